/-
  Tokens laid down with a blank or a remark between are read as they were (plain lists, no program).
-/
import Derived.Test.YtconbldpomjgkaaDoorLex
import Derived.Test.YtconbldpomjgkaaDoorNums
namespace Go.Proofs.YtconbldpomjgkaaDoor
namespace Lx
open Go.Lib

/-- What a token is written as. -/
def txt (t : Tk) : List UInt8 := if t.kind = 2 then decDigits t.num else t.text

theorem valN_snoc (l : List UInt8) (c : UInt8) (a : Nat) : valN a (l ++ [c]) = 10 * valN a l + (c.toNat - 48) := by
  rw [valN, valN, List.foldl_append]; rfl
theorem valN_dec (u : Nat) : valN 0 (decDigits u) = u := by
  refine Nums.dec_ind (fun u => valN 0 (decDigits u) = u) ?_ ?_ u
  · intro u h
    rw [Nums.dec_lo h, valN_cons, valN_nil, Nums.byte_of u h]; omega
  · intro u h ih
    rw [Nums.dec_hi h, valN_snoc, ih, Nums.byte_of _ (by omega)]; omega

/-- What each token that has been read is. -/
def Good (t : Tk) : Prop :=
  (t.kind = 3 ∧ t.num = 0 ∧ isWord t.text = true ∧ nextLet t.text = true ∧ runN alnB t.text = t.text.length) ∨
  (t.kind = 1 ∧ t.num = 0 ∧ isWord t.text = false ∧ isName t.text = true ∧ nextLet t.text = true ∧ runN alnB t.text = t.text.length) ∨
  (t.kind = 2 ∧ t.text = [] ∧ t.num ≤ 9223372036854775807) ∨ (t.kind = 4 ∧ t.num = 0 ∧ t.text ∈ signs)
theorem good_word (t : List UInt8) (p : Nat) (hw : isWord t = true) (hl : nextLet t = true) (ha : runN alnB t = t.length) : Good ⟨3, t, 0, p⟩ := Or.inl ⟨rfl, rfl, hw, hl, ha⟩
theorem good_name (t : List UInt8) (p : Nat) (hw : isWord t = false) (hn : isName t = true) (hl : nextLet t = true) (ha : runN alnB t = t.length) : Good ⟨1, t, 0, p⟩ := Or.inr (Or.inl ⟨rfl, rfl, hw, hn, hl, ha⟩)
theorem good_int (n p : Nat) (hn : n ≤ 9223372036854775807) : Good ⟨2, [], n, p⟩ := Or.inr (Or.inr (Or.inl ⟨rfl, rfl, hn⟩))
theorem good_sign (g : List UInt8) (p : Nat) (hg : g ∈ signs) : Good ⟨4, g, 0, p⟩ := Or.inr (Or.inr (Or.inr ⟨rfl, rfl, hg⟩))
theorem good_cases {P : Tk → Prop} {t : Tk} (h : Good t)
    (word : ∀ (t : List UInt8) (p : Nat), isWord t = true → nextLet t = true → runN alnB t = t.length → P ⟨3, t, 0, p⟩)
    (name : ∀ (t : List UInt8) (p : Nat), isWord t = false → isName t = true → nextLet t = true → runN alnB t = t.length → P ⟨1, t, 0, p⟩)
    (num : ∀ n p : Nat, n ≤ 9223372036854775807 → P ⟨2, [], n, p⟩) (sign : ∀ (g : List UInt8) (p : Nat), g ∈ signs → P ⟨4, g, 0, p⟩) : P t := by
  obtain ⟨k, x, n, p⟩ := t
  rcases h with ⟨h1, h2, h3, h4, h5⟩ | ⟨h1, h2, h3, h4, h5, h6⟩ | ⟨h1, h2, h3⟩ | ⟨h1, h2, h3⟩
  · cases h1; cases h2; exact word x p h3 h4 h5
  · cases h1; cases h2; exact name x p h3 h4 h5 h6
  · cases h1; cases h2; exact num n p h3
  · cases h1; cases h2; exact sign x p h3

theorem run_take (q : Int → Bool) : ∀ l : List UInt8, runN q (l.take (runN q l)) = (l.take (runN q l)).length
  | [] => rfl
  | c :: l => by
    cases h : q (c.toNat : Int)
    · rw [runN_no _ _ _ h]; rfl
    · rw [runN_yes _ _ _ h, List.take_succ_cons, runN_yes _ _ _ h, run_take q l]; rfl

theorem good_of_one {r : List UInt8} {kind : Nat} {text : List UInt8} {num m : Nat} (p : Nat) (h : one r = some (kind, text, num, m)) : Good ⟨kind, text, num, p⟩ := by
  unfold one at h
  split at h
  · cases h
  · rename_i c r'
    split at h
    · rename_i hc
      have hal : alnB (c.toNat : Int) = true := by simp [alnB, hc]
      have hl : nextLet ((c :: r').take (runN alnB (c :: r'))) = true := by
        rw [runN_yes _ _ _ hal, List.take_succ_cons]; exact hc
      have ha := run_take alnB (c :: r')
      split at h
      · rename_i hw
        simp only [Option.some.injEq, Prod.mk.injEq] at h
        obtain ⟨rfl, rfl, rfl, _⟩ := h
        exact good_word _ _ hw hl ha
      · rename_i hw
        split at h
        · rename_i hn
          simp only [Option.some.injEq, Prod.mk.injEq] at h
          obtain ⟨rfl, rfl, rfl, _⟩ := h
          exact good_name _ _ (by simpa using hw) hn hl ha
        · cases h
    · split at h
      · split at h
        · cases h
        · rename_i hb
          simp only [Option.some.injEq, Prod.mk.injEq] at h
          obtain ⟨rfl, rfl, rfl, _⟩ := h
          refine good_int _ _ ?_
          simp only [numBad, Bool.or_eq_true, decide_eq_true_eq, not_or] at hb
          omega
      · split at h
        · cases h
        · rename_i g hg
          simp only [Option.some.injEq, Prod.mk.injEq] at h
          obtain ⟨rfl, rfl, rfl, _⟩ := h
          exact good_sign _ _ (signAt_mem hg)

theorem lexF_good : ∀ (f k : Nat) (r : List UInt8) (ts : List Tk), lexF f k r = .ok ts → ∀ t ∈ ts, Good t
  | 0, _, _, _, h => by simp [lexF] at h
  | f + 1, k, [], ts, h => by
    simp only [lexF] at h
    injection h with h
    rw [← h]; simp
  | f + 1, k, c :: r, ts, h => by
    rw [lexF] at h
    split at h
    · cases h
    · rename_i kind text num m h1
      split at h
      · cases h
      · rename_i us hu
        have ih := lexF_good f _ _ us hu
        injection h with h
        rw [← h]
        intro t ht
        rcases List.mem_cons.1 ht with rfl | ht
        · exact good_of_one _ h1
        · exact ih t ht

/-- A byte that may stand behind a token. -/
def Ends (c : UInt8) : Prop := c = 32 ∨ c = 10 ∨ c = 9

theorem run_app (q : Int → Bool) (c : UInt8) (r : List UInt8) (hc : q (c.toNat : Int) = false) : ∀ l : List UInt8, runN q l = l.length → runN q (l ++ c :: r) = l.length
  | [], _ => runN_no _ _ _ hc
  | d :: l, h => by
    cases hd : q (d.toNat : Int)
    · rw [runN_no _ _ _ hd] at h; simp at h
    · rw [runN_yes _ _ _ hd] at h
      rw [List.cons_append, runN_yes _ _ _ hd, run_app q c r hc l (by simpa using h)]; rfl
theorem run_all (q : Int → Bool) : ∀ l : List UInt8, (∀ c ∈ l, q (c.toNat : Int) = true) → runN q l = l.length
  | [], _ => rfl
  | c :: l, h => by
    rw [runN_yes _ _ _ (h c List.mem_cons_self), run_all q l (fun d hd => h d (List.mem_cons_of_mem _ hd))]; rfl

theorem one_back {t : Tk} (h : Good t) {c : UInt8} (hc : Ends c) (r : List UInt8) : one (txt t ++ c :: r) = some (t.kind, t.text, t.num, (txt t).length) := by
  have ca : alnB (c.toNat : Int) = false := by rcases hc with rfl | rfl | rfl <;> decide
  have cd : digB (c.toNat : Int) = false := by rcases hc with rfl | rfl | rfl <;> decide
  have cl : letB (c.toNat : Int) = false := by rcases hc with rfl | rfl | rfl <;> decide
  refine good_cases (P := fun t => one (txt t ++ c :: r) = some (t.kind, t.text, t.num, (txt t).length)) h ?_ ?_ ?_ ?_
  · intro t p hw hl ha
    have ht : txt ⟨3, t, 0, p⟩ = t := rfl
    rw [ht]
    have hr := run_app alnB c r ca t ha
    match t, hl with
    | d :: t, hl =>
      have hl' : letB (d.toNat : Int) = true := hl
      rw [List.cons_append] at hr ⊢
      rw [one, if_pos hl', hr, ← List.cons_append, List.take_left, if_pos hw]
  · intro t p hw hn hl ha
    have ht : txt ⟨1, t, 0, p⟩ = t := rfl
    rw [ht]
    have hr := run_app alnB c r ca t ha
    match t, hl with
    | d :: t, hl =>
      have hl' : letB (d.toNat : Int) = true := hl
      rw [List.cons_append] at hr ⊢
      rw [one, if_pos hl', hr, ← List.cons_append, List.take_left, if_neg (by rw [hw]; decide), if_pos hn]
  · intro n p hn
    have ht : txt ⟨2, [], n, p⟩ = decDigits n := rfl
    rw [ht]
    have hall : ∀ d ∈ decDigits n, digB (d.toNat : Int) = true := fun d hd => by
      have := Nums.dec_mem n d hd
      simp [digB]; omega
    have hr := run_app digB c r cd (decDigits n) (run_all digB _ hall)
    have hv := valN_dec n
    have hh := Nums.dec_head n
    have hlen1 : n = 0 → (decDigits n).length = 1 := fun h0 => by rw [h0, Nums.dec_lo (by omega)]; rfl
    cases hd : decDigits n with
    | nil => exact absurd hd (Nums.dec_ne n)
    | cons d l =>
      rw [hd] at hr hv hall hlen1
      have hdd := hall d List.mem_cons_self
      have hdl : letB (d.toNat : Int) = false := by
        simp [digB] at hdd
        simp [letB]; omega
      have hbad : numBad (d :: l ++ c :: r) = false := by
        have hn48 : ¬ ((d :: l ++ c :: r).head? = some 48 ∧ 1 < (d :: l).length) := fun ⟨h1, h2⟩ => by
          rw [List.cons_append, List.head?_cons] at h1
          injection h1 with h1
          rcases Nat.eq_zero_or_pos n with h0 | h0
          · have := hlen1 h0; omega
          · exact hh h0 d l hd (by rw [h1]; decide)
        rw [numBad, hr, List.take_left, List.drop_left, hv]
        simp only [Bool.or_eq_false_iff, decide_eq_false_iff_not]
        exact ⟨⟨hn48, by omega⟩, cl⟩
      rw [List.cons_append] at hr hbad ⊢
      rw [one, if_neg (by rw [hdl]; decide), if_pos hdd, if_neg (by rw [hbad]; decide), hr, ← List.cons_append, List.take_left, hv]
  · intro g p hg
    have ht : txt ⟨4, g, 0, p⟩ = g := rfl
    rw [ht]
    simp only [signs, List.mem_cons, List.not_mem_nil, or_false] at hg
    rcases hc with rfl | rfl | rfl <;>
      (rcases hg with rfl | rfl | rfl | rfl | rfl | rfl | rfl | rfl | rfl | rfl | rfl | rfl | rfl | rfl | rfl | rfl | rfl | rfl | rfl | rfl | rfl | rfl | rfl <;> rfl)

theorem txt_pos {t : Tk} (h : Good t) : 0 < (txt t).length := by
  have := (one_len (one_back h (Or.inl rfl) [])).1
  exact this

/-- No blank stands in front of a token. -/
theorem skip_tok {t : Tk} (h : Good t) {c : UInt8} (hc : Ends c) (r : List UInt8) : skipS false (txt t ++ c :: r) = 0 := by
  refine good_cases (P := fun t => skipS false (txt t ++ c :: r) = 0) h ?_ ?_ ?_ ?_
  · intro t p hw hl ha
    match t, hl with
    | d :: t, hl =>
      have hl' : letB (d.toNat : Int) = true := hl
      have h1 : 97 ≤ d.toNat ∧ d.toNat ≤ 122 ∨ 65 ≤ d.toNat ∧ d.toNat ≤ 90 := by simp [letB] at hl'; omega
      exact skip_none d _ (by simp [spcB]; omega) (fun ⟨h2, _⟩ => by rw [h2] at h1; revert h1; decide)
  · intro t p hw hn hl ha
    match t, hl with
    | d :: t, hl =>
      have hl' : letB (d.toNat : Int) = true := hl
      have h1 : 97 ≤ d.toNat ∧ d.toNat ≤ 122 ∨ 65 ≤ d.toNat ∧ d.toNat ≤ 90 := by simp [letB] at hl'; omega
      exact skip_none d _ (by simp [spcB]; omega) (fun ⟨h2, _⟩ => by rw [h2] at h1; revert h1; decide)
  · intro n p hn
    have ht : txt ⟨2, [], n, p⟩ = decDigits n := rfl
    rw [ht]
    have hm := Nums.dec_mem n
    cases hd : decDigits n with
    | nil => exact absurd hd (Nums.dec_ne n)
    | cons d l =>
      have h1 := hm d (by rw [hd]; exact List.mem_cons_self)
      exact skip_none d _ (by simp [spcB]; omega) (fun ⟨h2, _⟩ => by rw [h2] at h1; revert h1; decide)
  · intro g p hg
    have ht : txt ⟨4, g, 0, p⟩ = g := rfl
    rw [ht]
    simp only [signs, List.mem_cons, List.not_mem_nil, or_false] at hg
    rcases hc with rfl | rfl | rfl <;>
      (rcases hg with rfl | rfl | rfl | rfl | rfl | rfl | rfl | rfl | rfl | rfl | rfl | rfl | rfl | rfl | rfl | rfl | rfl | rfl | rfl | rfl | rfl | rfl | rfl <;> rfl)

/-- What may be laid between tokens. -/
structure Between (sep : List UInt8) : Prop where
  ends : ∃ c r, sep = c :: r ∧ Ends c
  skip : ∀ R, skipS false (sep ++ R) = sep.length + skipS false R

theorem between0 : Between [32] := ⟨⟨_, _, rfl, Or.inl rfl⟩, fun R => by show skipS false R + 1 = 1 + _; omega⟩
theorem between1 : Between [10] := ⟨⟨_, _, rfl, Or.inr (Or.inl rfl)⟩, fun R => by show skipS false R + 1 = 1 + _; omega⟩
theorem between2 : Between [9, 13, 32] := ⟨⟨_, _, rfl, Or.inr (Or.inr rfl)⟩, fun R => by show skipS false R + 1 + 1 + 1 = 3 + _; omega⟩
theorem between3 : Between [32, 47, 47, 32, 120, 10] := ⟨⟨_, _, rfl, Or.inl rfl⟩, fun R => by show skipS false R + 1 + 1 + 1 + 1 + 1 + 1 = 6 + _; omega⟩

def join (sep : List UInt8) (us : List Tk) : List UInt8 := us.flatMap fun t => txt t ++ sep
theorem join_cons (sep : List UInt8) (t : Tk) (us : List Tk) : join sep (t :: us) = txt t ++ (sep ++ join sep us) := by simp [join]
def place (sep : List UInt8) : Nat → List Tk → List Tk
  | k, [] => [⟨0, [], 0, k⟩]
  | k, t :: us => ⟨t.kind, t.text, t.num, k⟩ :: place sep (k + ((txt t).length + sep.length)) us

theorem skip_join {sep : List UInt8} (hs : Between sep) (us : List Tk) (hg : ∀ t ∈ us, Good t) : skipS false (join sep us) = 0 := by
  cases us with
  | nil => rfl
  | cons t us =>
    obtain ⟨c, r, hsep, hc⟩ := hs.ends
    rw [join_cons, hsep, List.cons_append]
    exact skip_tok (hg t List.mem_cons_self) hc _

theorem lexF_join {sep : List UInt8} (hs : Between sep) : ∀ (us : List Tk) (f k : Nat), (∀ t ∈ us, Good t) → (join sep us).length < f →
    ∃ vs, lexF f k (join sep us) = .ok vs ∧ vs ++ [⟨0, [], 0, k + (join sep us).length⟩] = place sep k us
  | [], f, k, _, hf => by
    obtain ⟨f, rfl⟩ : ∃ g, f = g + 1 := ⟨f - 1, by omega⟩
    exact ⟨[], rfl, rfl⟩
  | t :: us, f, k, hg, hf => by
    obtain ⟨f, rfl⟩ : ∃ g, f = g + 1 := ⟨f - 1, by omega⟩
    obtain ⟨c, r, hsep, hc⟩ := hs.ends
    have ht := hg t List.mem_cons_self
    have hpos := txt_pos ht
    have h1 := one_back ht hc (r ++ join sep us)
    have h2 : txt t ++ c :: (r ++ join sep us) = join sep (t :: us) := by rw [join_cons, hsep, List.cons_append]
    have hlen : (join sep (t :: us)).length = (txt t).length + (sep.length + (join sep us).length) := by rw [join_cons, List.length_append, List.length_append]
    rw [h2] at h1
    have hd : (join sep (t :: us)).drop (txt t).length = sep ++ join sep us := by rw [join_cons, List.drop_left]
    have hk : skipS false (sep ++ join sep us) = sep.length := by
      rw [hs.skip, skip_join hs us (fun u hu => hg u (List.mem_cons_of_mem _ hu))]; omega
    have hd2 : (join sep (t :: us)).drop ((txt t).length + sep.length) = join sep us := by
      rw [← List.drop_drop, hd, List.drop_left]
    obtain ⟨vs, hv, hp⟩ := lexF_join hs us f (k + ((txt t).length + sep.length)) (fun u hu => hg u (List.mem_cons_of_mem _ hu)) (by omega)
    refine ⟨⟨t.kind, t.text, t.num, k⟩ :: vs, ?_, ?_⟩
    · cases hj : join sep (t :: us) with
      | nil => rw [hj] at hlen; simp at hlen; omega
      | cons d l =>
        rw [← hj, hj, lexF, ← hj, h1]
        simp only []
        rw [hd, hk, hd2, hv]
    · rw [List.cons_append, place, ← hp, hlen]
      congr 4
      omega

theorem toks_join {sep : List UInt8} (hs : Between sep) (us : List Tk) (hg : ∀ t ∈ us, Good t) (hl : (join sep us).length ≤ 6000) : toks (join sep us) = (place sep 0 us, 0, 0) := by
  obtain ⟨vs, hv, hp⟩ := lexF_join hs us ((join sep us).length + 1) 0 hg (by omega)
  have h0 := skip_join hs us hg
  have hall : lexAll (join sep us) = .ok vs := by rw [lexAll, h0, List.drop_zero]; exact hv
  rw [toks, if_neg (by omega), hall, ← hp, Nat.zero_add]

theorem place_len (sep : List UInt8) : ∀ (us : List Tk) (k : Nat), (place sep k us).length = us.length + 1
  | [], _ => rfl
  | t :: us, k => by rw [place, List.length_cons, place_len sep us, List.length_cons]
theorem place_at (sep : List UInt8) : ∀ (us : List Tk) (k i : Nat) (t : Tk), us[i]? = some t → ∃ p, (place sep k us)[i]? = some ⟨t.kind, t.text, t.num, p⟩
  | [], _, _, _, h => by simp at h
  | u :: us, k, 0, t, h => by
    simp at h
    exact ⟨k, by rw [place, h]; rfl⟩
  | u :: us, k, i + 1, t, h => by
    obtain ⟨p, hp⟩ := place_at sep us (k + ((txt u).length + sep.length)) i t (by simpa using h)
    exact ⟨p, by rw [place, List.getElem?_cons_succ]; exact hp⟩
theorem place_end (sep : List UInt8) : ∀ (us : List Tk) (k : Nat), (place sep k us)[us.length]? = some ⟨0, [], 0, k + (join sep us).length⟩
  | [], _ => rfl
  | u :: us, k => by
    rw [place, List.length_cons, List.getElem?_cons_succ, place_end sep us, join_cons, List.length_append, List.length_append]
    congr 2
    omega
theorem place_head (sep : List UInt8) (us : List Tk) (k : Nat) : ∃ t, (place sep k us)[0]? = some t ∧ t.at_ = k := by
  cases us with
  | nil => exact ⟨_, rfl, rfl⟩
  | cons t us => exact ⟨_, rfl, rfl⟩
theorem place_up {sep : List UInt8} : ∀ (us : List Tk) (k i : Nat) (a b : Tk), (∀ t ∈ us, Good t) → (place sep k us)[i]? = some a → (place sep k us)[i + 1]? = some b → a.at_ < b.at_
  | [], k, i, a, b, _, _, hb => by simp [place] at hb
  | t :: us, k, 0, a, b, hg, ha, hb => by
    rw [place] at ha hb
    simp at ha
    rw [List.getElem?_cons_succ] at hb
    obtain ⟨u, hu, hat⟩ := place_head sep us (k + ((txt t).length + sep.length))
    rw [hu] at hb
    injection hb with hb
    rw [← ha, ← hb, hat]
    have := txt_pos (hg t List.mem_cons_self)
    show k < _
    omega
  | t :: us, k, i + 1, a, b, hg, ha, hb => by
    rw [place, List.getElem?_cons_succ] at ha hb
    exact place_up us _ i a b (fun u hu => hg u (List.mem_cons_of_mem _ hu)) ha hb

/-! Sizes, and what a text's tokens are. -/
theorem good_num {t : Tk} (h : Good t) : t.num ≤ 9223372036854775807 := by
  refine good_cases (P := fun t => t.num ≤ 9223372036854775807) h ?_ ?_ ?_ ?_
  · exact fun _ _ _ _ _ => Nat.zero_le _
  · exact fun _ _ _ _ _ _ => Nat.zero_le _
  · intro n p hn
    exact hn
  · exact fun _ _ _ => Nat.zero_le _
theorem isWord_len {t : List UInt8} (h : isWord t = true) : t.length ≤ 6 := by
  have h2 : t ∈ words := List.contains_iff_mem.1 h
  have h3 : ∀ w ∈ words, w.length ≤ 6 := by decide
  exact h3 t h2
theorem isName_len {t : List UInt8} (h : isName t = true) : t.length ≤ 8 := by
  unfold isName at h
  split at h
  · cases h
  · simp only [Bool.and_eq_true, decide_eq_true_eq] at h
    exact h.1.1.1
theorem join_len {sep : List UInt8} (hs : sep.length ≤ 6) : ∀ us : List Tk, (∀ t ∈ us, (txt t).length ≤ 19) → (join sep us).length ≤ us.length * 25
  | [], _ => Nat.le_refl _
  | t :: us, h => by
    have h1 := join_len hs us (fun u hu => h u (List.mem_cons_of_mem _ hu))
    have h2 := h t List.mem_cons_self
    rw [join_cons, List.length_append, List.length_append, List.length_cons]
    omega
theorem join_take (sep : List UInt8) {us : List Tk} {j : Nat} {t : Tk} (h : us[j]? = some t) : join sep (us.take (j + 1)) = join sep (us.take j) ++ txt t ++ sep := by
  rw [List.take_add_one, h]
  simp [join]
theorem toks_shape {l : List UInt8} {ts : List Tk} {K : Nat} (h : toks l = (ts, 0, K)) : K = 0 ∧ ∃ us, ts = us ++ [⟨0, [], 0, l.length⟩] ∧ ∀ t ∈ us, Good t := by
  unfold toks at h
  by_cases hl : 6000 < l.length
  · rw [if_pos hl] at h
    simp at h
  · rw [if_neg hl] at h
    cases ha : lexAll l with
    | error k => rw [ha] at h; simp at h
    | ok us =>
      rw [ha] at h
      simp only [Prod.mk.injEq, true_and] at h
      exact ⟨h.2.symm, us, h.1.symm, lexF_good _ _ _ _ ha⟩
theorem back_same (sep : List UInt8) (us : List Tk) (n j : Nat) (t : Tk) (h : (us ++ [(⟨0, [], 0, n⟩ : Tk)])[j]? = some t) : ∃ p, (place sep 0 us)[j]? = some ⟨t.kind, t.text, t.num, p⟩ := by
  rcases Nat.lt_or_ge j us.length with hj | hj
  · rw [List.getElem?_append_left hj] at h
    exact place_at sep us 0 j t h
  · have hj2 : j = us.length := by
      rcases Nat.lt_or_ge us.length j with h2 | h2
      · rw [List.getElem?_eq_none (by simp; omega)] at h; cases h
      · omega
    subst hj2
    rw [List.getElem?_append_right (Nat.le_refl _), Nat.sub_self] at h
    simp at h
    rw [← h]
    exact ⟨_, place_end sep us 0⟩
end Lx
end Go.Proofs.YtconbldpomjgkaaDoor
