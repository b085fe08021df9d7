/-
  The tokens of a text in brackets, each closing one in a line of its own, in plain lists.
  What is read of a text in brackets, in plain data.
-/
import Derived.Test.YtnnbdidefgghjaaDoorKn
import Derived.Test.YtnnbdidefgghjaaDoorPd
import Derived.Test.YtnnbdidefgghjaaDoorTx
namespace Go.Proofs.YtnnbdidefgghjaaDoor
namespace Br
open Ln.Lx

theorem skip_app (x : List UInt8) : ∀ (r : List UInt8) (b : Bool), (skipS b r < r.length → skipS b (r ++ 10 :: x) = skipS b r) ∧ (skipS b r = r.length → skipS b (r ++ 10 :: x) = r.length + 1 + skipS false x)
  | [], true => ⟨fun h => absurd h (Nat.lt_irrefl _), fun _ => by
      show skipS (linB ((10 : UInt8).toNat : Int)) x + 1 = _
      rw [show linB ((10 : UInt8).toNat : Int) = false by decide]
      simp only [List.length_nil]; omega⟩
  | [], false => ⟨fun h => absurd h (Nat.lt_irrefl _), fun _ => by
      show (if spcB ((10 : UInt8).toNat : Int) then skipS false x + 1 else _) = _
      rw [if_pos (by decide)]
      simp only [List.length_nil]; omega⟩
  | c :: r, true => by
    obtain ⟨h1, h2⟩ := skip_app x r (linB (c.toNat : Int))
    simp only [List.cons_append, skipS, List.length_cons]
    refine ⟨fun h => ?_, fun h => ?_⟩
    · rw [h1 (by omega)]
    · rw [h2 (by omega)]; omega
  | c :: r, false => by
    obtain ⟨h1, h2⟩ := skip_app x r false
    obtain ⟨h3, h4⟩ := skip_app x r true
    have hh : ((r ++ 10 :: x).head? = some 47) = (r.head? = some 47) := by
      cases r with
      | nil => simp
      | cons d r => rfl
    simp only [List.cons_append, skipS, List.length_cons, hh]
    by_cases hs : spcB (c.toNat : Int) = true
    · rw [if_pos hs, if_pos hs]
      refine ⟨fun h => ?_, fun h => ?_⟩
      · rw [h1 (by omega)]
      · rw [h2 (by omega)]; omega
    · rw [if_neg hs, if_neg hs]
      by_cases hc : c = 47 ∧ r.head? = some 47
      · rw [if_pos hc, if_pos hc]
        refine ⟨fun h => ?_, fun h => ?_⟩
        · rw [h3 (by omega)]
        · rw [h4 (by omega)]; omega
      · rw [if_neg hc, if_neg hc]
        exact ⟨fun _ => rfl, fun h => by omega⟩
theorem run_nl (p : Int → Bool) (hp : p 10 = false) (x : List UInt8) : ∀ r : List UInt8, Ln.Lx.runN p (r ++ 10 :: x) = Ln.Lx.runN p r
  | [] => by rw [List.nil_append]; exact runN_no p 10 x hp
  | c :: r => by rw [List.cons_append, Ln.Lx.runN, Ln.Lx.runN, run_nl p hp x r]
theorem take_nl (p : Int → Bool) (r x : List UInt8) : (r ++ 10 :: x).take (Ln.Lx.runN p r) = r.take (Ln.Lx.runN p r) := by
  rw [List.take_append_of_le_length (runN_le p r)]
theorem pre_nl (x : List UInt8) : ∀ (g r : List UInt8), (∀ c ∈ g, c ≠ 10) → g.isPrefixOf (r ++ 10 :: x) = g.isPrefixOf r
  | [], r, _ => by simp
  | c :: g, [], h => by
    have := h c (List.mem_cons_self ..)
    simp [List.isPrefixOf, this]
  | c :: g, d :: r, h => by
    simp only [List.cons_append, List.isPrefixOf]
    rw [pre_nl x g r fun z hz => h z (List.mem_cons_of_mem _ hz)]
theorem sign_nl (r x : List UInt8) : signAt (r ++ 10 :: x) = signAt r := by
  unfold signAt
  have hall : ∀ g ∈ signs, ∀ c ∈ g, c ≠ 10 := by decide
  have : ∀ L : List (List UInt8), (∀ g ∈ L, ∀ c ∈ g, c ≠ 10) → L.find? (fun g => g.isPrefixOf (r ++ 10 :: x)) = L.find? (fun g => g.isPrefixOf r) := by
    intro L
    induction L with
    | nil => intro _; rfl
    | cons g L ih =>
      intro h
      rw [List.find?_cons, List.find?_cons, pre_nl x g r (h g (List.mem_cons_self ..)), ih fun z hz => h z (List.mem_cons_of_mem _ hz)]
  exact this signs hall
theorem one_nl (c : UInt8) (r x : List UInt8) : one ((c :: r) ++ 10 :: x) = one (c :: r) := by
  have e1 : Ln.Lx.runN alnB ((c :: r) ++ 10 :: x) = Ln.Lx.runN alnB (c :: r) := run_nl _ (by decide) _ _
  have e2 : Ln.Lx.runN digB ((c :: r) ++ 10 :: x) = Ln.Lx.runN digB (c :: r) := run_nl _ (by decide) _ _
  have e3 : ((c :: r) ++ 10 :: x).take (Ln.Lx.runN alnB (c :: r)) = (c :: r).take (Ln.Lx.runN alnB (c :: r)) := take_nl _ _ _
  have e4 : ((c :: r) ++ 10 :: x).take (Ln.Lx.runN digB (c :: r)) = (c :: r).take (Ln.Lx.runN digB (c :: r)) := take_nl _ _ _
  have e5 : numBad ((c :: r) ++ 10 :: x) = numBad (c :: r) := by
    unfold numBad
    rw [e2, e4, List.drop_append_of_le_length (runN_le digB (c :: r))]
    have hn : nextLet ((c :: r).drop (Ln.Lx.runN digB (c :: r)) ++ 10 :: x) = nextLet ((c :: r).drop (Ln.Lx.runN digB (c :: r))) := by
      cases (c :: r).drop (Ln.Lx.runN digB (c :: r)) with
      | nil => show letB ((10 : UInt8).toNat : Int) = false; decide
      | cons d y => rfl
    rw [hn]
    rfl
  have e6 := sign_nl (c :: r) x
  unfold one
  rw [e1, e2, e3, e4, e5, e6]
  rfl
theorem lexF_more : ∀ (f j k : Nat) (r : List UInt8) (ts : List Tk), lexF f k r = .ok ts → lexF (f + j) k r = .ok ts
  | 0, _, _, _, _, h => by simp [lexF] at h
  | f + 1, j, k, [], ts, h => by
    rw [show f + 1 + j = (f + j) + 1 by omega]
    simpa [lexF] using h
  | f + 1, j, k, c :: r, ts, h => by
    rw [show f + 1 + j = (f + j) + 1 by omega]
    rw [lexF] at h ⊢
    split at h
    · cases h
    rename_i kind text num m h1
    try simp only [h1]
    split at h
    · cases h
    rename_i us hu
    rw [lexF_more f j _ _ us hu]
    exact h

/-- The tokens of a rest, what is blank in front left out. -/
def lx (f k : Nat) (r : List UInt8) : Except Nat (List Tk) := lexF f (k + skipS false r) (r.drop (skipS false r))
def mv (d : Nat) (t : Tk) : Tk := ⟨t.kind, t.text, t.num, t.at_ + d⟩
theorem lx_app (x : List UInt8) (f2 : Nat) (us : List Tk) : ∀ (f k d : Nat) (r : List UInt8) (ts : List Tk), lx f k r = .ok ts → lx f2 (k + d + r.length + 1) x = .ok us → lx (f + f2) (k + d) (r ++ 10 :: x) = .ok (ts.map (mv d) ++ us)
  | 0, _, _, _, _, h, _ => by simp [lx, lexF] at h
  | f + 1, k, d, r, ts, h, h2 => by
    obtain ⟨a1, a2⟩ := skip_app x r false
    have hle := skipS_le r false
    unfold lx at h ⊢
    by_cases hq : skipS false r = r.length
    · rw [List.drop_eq_nil_of_le (by omega)] at h
      have : ts = [] := by simpa [lexF] using h.symm
      subst this
      rw [a2 hq]
      unfold lx at h2
      have hd : (r ++ 10 :: x).drop (r.length + 1 + skipS false x) = x.drop (skipS false x) := by
        rw [show r.length + 1 + skipS false x = r.length + (skipS false x + 1) by omega, List.drop_append, List.drop_eq_nil_of_le (by omega), List.nil_append, Nat.add_sub_cancel_left]
        rfl
      rw [hd, show k + d + (r.length + 1 + skipS false x) = k + d + r.length + 1 + skipS false x by omega, Nat.add_comm (f + 1) f2]
      exact lexF_more f2 (f + 1) _ _ us h2
    · have hlt : skipS false r < r.length := by omega
      rw [a1 hlt, List.drop_append_of_le_length hle]
      obtain ⟨c, r', hr⟩ : ∃ c r', r.drop (skipS false r) = c :: r' := by
        cases hr : r.drop (skipS false r) with
        | nil => have := congrArg List.length hr; rw [List.length_drop, List.length_nil] at this; omega
        | cons c r' => exact ⟨c, r', rfl⟩
      have hrl : r.length = skipS false r + (c :: r').length := by have := congrArg List.length hr; rw [List.length_drop] at this; omega
      rw [hr] at h ⊢
      rw [show f + 1 + f2 = (f + f2) + 1 by omega]
      rw [lexF] at h
      rw [List.cons_append, lexF, ← List.cons_append, one_nl]
      split at h
      · cases h
      rename_i kind text num mm h1
      obtain ⟨hm0, hmm⟩ := one_len h1
      try simp only [h1]
      split at h
      · cases h
      rename_i vs hv
      injection h with h
      subst h
      have hl : lx f (k + skipS false r + mm) ((c :: r').drop mm) = .ok vs := by
        unfold lx
        rw [List.drop_drop, show k + skipS false r + mm + skipS false ((c :: r').drop mm) = k + skipS false r + (mm + skipS false ((c :: r').drop mm)) by omega]
        exact hv
      have ih := lx_app x f2 us f (k + skipS false r + mm) d ((c :: r').drop mm) vs hl (by
        rw [List.length_drop, show k + skipS false r + mm + d + ((c :: r').length - mm) + 1 = k + d + r.length + 1 by omega]
        exact h2)
      rw [← List.drop_append_of_le_length hmm] at ih
      unfold lx at ih
      rw [List.drop_drop, show k + skipS false r + mm + d + skipS false (((c :: r') ++ 10 :: x).drop mm) = k + d + skipS false r + (mm + skipS false (((c :: r') ++ 10 :: x).drop mm)) by omega] at ih
      rw [ih]
      simp only [List.map_cons, List.cons_append, mv]
      rw [show k + skipS false r + d = k + d + skipS false r by omega]
theorem lx_open (f k : Nat) (y : List UInt8) (ts : List Tk) (h : lx f (k + 1) y = .ok ts) : lx (f + 1) k (40 :: y) = .ok (⟨4, [40], 0, k⟩ :: ts) := by
  have h0 : skipS false (40 :: y) = 0 := by
    rw [skipS, if_neg (by decide), if_neg (by rintro ⟨hh, -⟩; exact absurd hh (by decide))]
  have h1 : one (40 :: y) = some (4, [40], 0, 1) := by
    unfold one
    have hs : signAt (40 :: y) = some [40] := by
      simp [signAt, signs, List.isPrefixOf, List.find?]
    simp only [hs]
    rfl
  unfold lx at h ⊢
  rw [h0, List.drop_zero, lexF, h1]
  simp only [Nat.add_zero, List.drop_one, List.tail_cons]
  rw [show k + (1 + skipS false y) = k + 1 + skipS false y by omega, Nat.add_comm 1 (skipS false y), List.drop_succ_cons, h]
theorem lx_shut (k : Nat) : lx 2 k [41] = .ok [⟨4, [41], 0, k⟩] := by
  have h1 : one [41] = some (4, [41], 0, 1) := by decide
  unfold lx
  rw [show skipS false [41] = 0 by decide, List.drop_zero, lexF, h1]
  rfl

/-- A text in brackets. -/
def wrap (s : List UInt8) : Nat → List UInt8
  | 0 => s
  | j + 1 => 40 :: (wrap s j ++ [10, 41])
def wrapT (s : List UInt8) (ts : List Tk) : Nat → List Tk
  | 0 => ts
  | j + 1 => ⟨4, [40], 0, 0⟩ :: ((wrapT s ts j).map (mv 1) ++ [⟨4, [41], 0, (wrap s j).length + 2⟩])
theorem wrap_len (s : List UInt8) : ∀ j, (wrap s j).length = s.length + 3 * j
  | 0 => rfl
  | j + 1 => by simp only [wrap, List.length_cons, List.length_append, List.length_nil, wrap_len s j]; omega
theorem lex_wrap {s : List UInt8} {ts : List Tk} (h : lexAll s = .ok ts) : ∀ j, lexAll (wrap s j) = .ok (wrapT s ts j)
  | 0 => h
  | j + 1 => by
    have ih := lex_wrap h j
    have ih2 : lx ((wrap s j).length + 1) 0 (wrap s j) = .ok (wrapT s ts j) := by unfold lx; rw [Nat.zero_add]; exact ih
    have h3 := lx_app [41] 2 [⟨4, [41], 0, (wrap s j).length + 2⟩] _ 0 1 _ _ ih2 (by
      rw [show 0 + 1 + (wrap s j).length + 1 = (wrap s j).length + 2 by omega]; exact lx_shut _)
    have h4 := lx_open _ 0 _ _ h3
    unfold lx at h4
    unfold lexAll
    rw [Nat.zero_add] at h4
    rw [show (wrap s (j + 1)).length + 1 = (wrap s j).length + 1 + 2 + 1 by simp only [wrap, List.length_cons, List.length_append, List.length_nil]]
    exact h4
theorem wrapT_len (s : List UInt8) (ts : List Tk) : ∀ j, (wrapT s ts j).length = ts.length + 2 * j
  | 0 => rfl
  | j + 1 => by simp only [wrapT, List.length_cons, List.length_append, List.length_map, List.length_nil, wrapT_len s ts j]; omega
theorem wrapT_succ (s : List UInt8) (ts : List Tk) (j i : Nat) (hi : i < (wrapT s ts j).length) : (wrapT s ts (j + 1))[i + 1]? = ((wrapT s ts j)[i]?).map (mv 1) := by
  rw [wrapT, List.getElem?_cons_succ, List.getElem?_append_left (by rw [List.length_map]; exact hi), List.getElem?_map]
/-- What stands where. -/
theorem wrapT_at (s : List UInt8) (ts : List Tk) : ∀ j, (∀ i, i < j → ∃ p, (wrapT s ts j)[i]? = some ⟨4, [40], 0, p⟩) ∧ (∀ i t, ts[i]? = some t → ∃ p, (wrapT s ts j)[i + j]? = some ⟨t.kind, t.text, t.num, p⟩) ∧ (∀ i, i < j → ∃ p, (wrapT s ts j)[ts.length + j + i]? = some ⟨4, [41], 0, p⟩)
  | 0 => ⟨fun i hi => absurd hi (Nat.not_lt_zero _), fun i t h => ⟨t.at_, h⟩, fun i hi => absurd hi (Nat.not_lt_zero _)⟩
  | j + 1 => by
    obtain ⟨h1, h2, h3⟩ := wrapT_at s ts j
    have hl := wrapT_len s ts j
    refine ⟨fun i hi => ?_, fun i t h => ?_, fun i hi => ?_⟩
    · cases i with
      | zero => exact ⟨0, rfl⟩
      | succ i =>
        obtain ⟨p, hp⟩ := h1 i (by omega)
        exact ⟨p + 1, by rw [wrapT_succ s ts j i (by omega), hp]; rfl⟩
    · obtain ⟨p, hp⟩ := h2 i t h
      have := (List.getElem?_eq_some_iff.1 h).1
      exact ⟨p + 1, by rw [← Nat.add_assoc, wrapT_succ s ts j (i + j) (by omega), hp]; rfl⟩
    · by_cases hij : i < j
      · obtain ⟨p, hp⟩ := h3 i hij
        exact ⟨p + 1, by rw [show ts.length + (j + 1) + i = (ts.length + j + i) + 1 by omega, wrapT_succ s ts j _ (by omega), hp]; rfl⟩
      · have : i = j := by omega
        subst this
        refine ⟨(wrap s i).length + 2, ?_⟩
        · rw [wrapT, show ts.length + (i + 1) + i = ((wrapT s ts i).map (mv 1)).length + 1 by rw [List.length_map, hl]; omega, List.getElem?_cons_succ, List.getElem?_append_right (Nat.le_refl _), Nat.sub_self]
          rfl
end Br
end Go.Proofs.YtnnbdidefgghjaaDoor
namespace Go.Proofs.YtnnbdidefgghjaaDoor
namespace Br
open Px (RT tokAt)
open Pe (Ex)

theorem tok_get {us : List Ln.Lx.Tk} {k : Nat} {t : Ln.Lx.Tk} (h : us[k]? = some t) : tokAt (us.map toRT) (k : Int) = toRT t := by
  obtain ⟨hk, he⟩ := List.getElem?_eq_some_iff.1 h
  unfold tokAt
  rw [if_pos ⟨Int.natCast_nonneg _, by rw [List.length_map]; omega⟩]
  rw [Int.toNat_natCast, List.getD_eq_getElem?_getD, List.getElem?_map, h]
  rfl
/-- The tokens, their end too. -/
def ended (s : List UInt8) (ts : List Ln.Lx.Tk) : List RT := (ts ++ [(⟨0, [], 0, s.length⟩ : Ln.Lx.Tk)]).map toRT
theorem ended_len (s : List UInt8) (ts : List Ln.Lx.Tk) : (ended s ts).length = ts.length + 1 := by simp [ended]
theorem wrapped (s : List UInt8) (ts : List Ln.Lx.Tk) (n : Nat) (hn : 1 ≤ n) (hs : ts.length + 2 * n ≤ 800000000) : Par.Wrapped (ended s ts) (ended (wrap s n) (wrapT s ts n)) n ts.length := by
  obtain ⟨h1, h2, h3⟩ := wrapT_at s ts n
  have hl := wrapT_len s ts n
  have at_m : ∀ {k : Nat} {t : Ln.Lx.Tk}, (wrapT s ts n)[k]? = some t → tokAt (ended (wrap s n) (wrapT s ts n)) (k : Int) = toRT t := fun {k} {t} h => tok_get (by rw [List.getElem?_append_left (List.getElem?_eq_some_iff.1 h).1]; exact h)
  have end_l : tokAt (ended s ts) (ts.length : Int) = toRT ⟨0, [], 0, s.length⟩ := tok_get (by rw [List.getElem?_append_right (Nat.le_refl _), Nat.sub_self]; rfl)
  have end_m : tokAt (ended (wrap s n) (wrapT s ts n)) (((ts.length + n + n : Nat)) : Int) = toRT ⟨0, [], 0, (wrap s n).length⟩ := tok_get (by rw [show ts.length + n + n = (wrapT s ts n).length by omega, List.getElem?_append_right (Nat.le_refl _), Nat.sub_self]; rfl)
  refine ⟨⟨ended_len s ts, by rw [ended_len]; omega, by rw [end_l]; rfl, fun k h0 hk => ?_, ?_, by rw [ended_len]; omega⟩, fun i hi => ?_, fun i hi => ?_, by rw [end_m]; rfl⟩
  · obtain ⟨q, rfl⟩ : ∃ q : Nat, k = q := ⟨k.toNat, by omega⟩
    have hq : q < ts.length := by omega
    obtain ⟨p, hp⟩ := h2 q ts[q] (List.getElem?_eq_getElem hq)
    have e1 := at_m hp
    have e2 : tokAt (ended s ts) (q : Int) = toRT ts[q] := tok_get (by rw [List.getElem?_append_left hq]; exact List.getElem?_eq_getElem hq)
    rw [show (q : Int) + n = ((q + n : Nat) : Int) by omega, e1, e2]
    exact ⟨rfl, rfl, rfl⟩
  · obtain ⟨p, hp⟩ := h3 0 (by omega)
    have e1 := at_m hp
    rw [show ((ts.length : Nat) : Int) + n = ((ts.length + n + 0 : Nat) : Int) by omega, e1]
    exact ⟨rfl, rfl⟩
  · obtain ⟨p, hp⟩ := h1 i hi
    rw [at_m hp]
    exact ⟨rfl, rfl⟩
  · obtain ⟨p, hp⟩ := h3 i hi
    rw [at_m hp]
    exact ⟨rfl, rfl⟩
theorem expr_run {ts : List RT} {f : Nat} {k o : Int} {x : Ex × Int × Int × Int} (h : Qe.expr ts f k o = some x) : ∃ b, Qe.run ts f 0 ⟨k, max o 0, 0, 0⟩ = some b ∧ x = Qe.exEnd b.1 b.2 := by
  unfold Qe.expr at h
  split at h
  · cases h
  · rename_i a t hb
    exact ⟨(a, t), hb, (Option.some.inj h).symm⟩
/-- So many pairs of brackets leave no trace; too many are the limit. -/
theorem parens (s : List UInt8) (ts : List Ln.Lx.Tk) (n : Nat) (hs : ts.length + 2 * n ≤ 800000000) {f f1 f2 : Nat} {x x1 x2 : Ex × Int × Int × Int}
    (hx : Qe.expr (ended s ts) f 0 0 = some x) (hE : x.2.2.1 = 0) (hk : x.2.1 = ts.length) (hx1 : Qe.expr (ended s ts) f1 0 n = some x1) (hx2 : Qe.expr (ended (wrap s n) (wrapT s ts n)) f2 0 0 = some x2)
    (h0 : n = 0 → x2 = x ∧ x1 = x) :
    (n ≤ 50 → x1.2.2.1 = 0 → x2.2.2.1 = 0 ∧ x2.2.1 = ((wrapT s ts n).length : Int) ∧ sameE x2.1 x.1 = true) ∧ (50 < n ∨ x1.2.2.1 ≠ 0 → x2.2.2.1 = 4 ∧ x2.2.1 = 0) := by
  by_cases hn0 : n = 0
  · obtain ⟨rfl, rfl⟩ := h0 hn0
    subst hn0
    refine ⟨fun _ _ => ⟨hE, by rw [hk]; rfl, sameE_self _⟩, fun h => ?_⟩
    rcases h with h | h
    · omega
    · exact absurd hE h
  · have W := wrapped s ts n (by omega) hs
    obtain ⟨b, hb, rfl⟩ := expr_run hx
    obtain ⟨b1, hb1, rfl⟩ := expr_run hx1
    obtain ⟨b2, hb2, rfl⟩ := expr_run hx2
    have hbE : b.2.E = 0 := by
      by_cases h : b.2.E = 0
      · exact h
      · unfold Qe.exEnd at hE; rw [if_neg h] at hE; exact hE
    have hbk : b.2.k = ts.length := by unfold Qe.exEnd at hk; rw [if_pos hbE] at hk; exact hk
    have hb1E : (Qe.exEnd b1.1 b1.2).2.2.1 = b1.2.E := by
      unfold Qe.exEnd
      by_cases h : b1.2.E = 0
      · rw [if_pos h, h]
      · rw [if_neg h]
    rw [hb1E]
    have hbx : (Qe.exEnd b.1 b.2).1 = b.1 := by unfold Qe.exEnd; rw [if_pos hbE]
    rw [hbx]
    have over : b2.2.E = 4 → (Qe.exEnd b2.1 b2.2).2.2.1 = 4 ∧ (Qe.exEnd b2.1 b2.2).2.1 = 0 := fun h => by
      unfold Qe.exEnd
      rw [if_neg (by rw [h]; decide)]
      exact ⟨h, rfl⟩
    rw [show max (n : Int) 0 = n by omega] at hb1
    by_cases hn : n ≤ 50
    · obtain ⟨h1, h2⟩ := Par.enough_in W hn (by omega) hb hbE hbk hb1 n 0 f2 (by omega) hb2
      refine ⟨fun _ h => ?_, fun h => ?_⟩
      · obtain ⟨y1, y2, y3⟩ := h1 h
        unfold Qe.exEnd
        rw [if_pos y1]
        exact ⟨rfl, by rw [wrapT_len]; show b2.2.k = _; rw [y2]; omega, y3⟩
      · rcases h with h | h
        · omega
        · exact over (h2 h)
    · exact ⟨fun h => absurd h hn, fun _ => over (Par.too_many W (by omega) 50 0 f2 rfl hb2)⟩
end Br
end Go.Proofs.YtnnbdidefgghjaaDoor
