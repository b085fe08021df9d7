/-
  What a text's tokens are, in plain lists (no program): chapter 2 of the document.
-/
import Derived.Lib.ItoaNum
import Derived.Lib.AtoiAll
import Derived.Lib.AtoiAllCases
namespace Go.Proofs.YtconbldpomjgkaaDoor
namespace Lx

def letB (c : Int) : Bool := decide (97 ≤ c ∧ c ≤ 122 ∨ 65 ≤ c ∧ c ≤ 90)
def digB (c : Int) : Bool := decide (48 ≤ c ∧ c ≤ 57)
def alnB (c : Int) : Bool := letB c || digB c
def spcB (c : Int) : Bool := decide (c = 32 ∨ c = 9 ∨ c = 10 ∨ c = 13)
def linB (c : Int) : Bool := decide (c ≠ 10)

/-- How many bytes from the front on belong. -/
def runN (p : Int → Bool) : List UInt8 → Nat
  | [] => 0
  | c :: r => if p (c.toNat : Int) then runN p r + 1 else 0

/-- White space and comments (true: within a comment): how many bytes. -/
def skipS : Bool → List UInt8 → Nat
  | _, [] => 0
  | true, c :: r => skipS (linB (c.toNat : Int)) r + 1
  | false, c :: r => if spcB (c.toNat : Int) then skipS false r + 1 else if c = 47 ∧ r.head? = some 47 then skipS true r + 1 else 0

def words : List (List UInt8) := [[114, 101, 99, 111, 114, 100], [103, 108, 111, 98, 97, 108], [102, 117, 110, 99], [118, 97, 114], [108, 101, 116], [105, 102], [101, 108, 115, 101], [119, 104, 105, 108, 101], [114, 101, 116, 117, 114, 110], [112, 114, 105, 110, 116], [110, 117, 108, 108], [110, 101, 119], [108, 101, 110], [114, 101, 97, 100], [116, 114, 117, 101], [102, 97, 108, 115, 101], [105, 110, 116], [98, 111, 111, 108]]
def isWord (l : List UInt8) : Bool := words.contains l
def isName (l : List UInt8) : Bool :=
  match l with
  | [] => false
  | c :: _ => decide (l.length ≤ 8) && letB (c.toNat : Int) && decide (runN alnB l = l.length) && !isWord l

/-- The value of digits. -/
def digStep (a : Nat) (c : UInt8) : Nat := 10 * a + (c.toNat - 48)
def valN (acc : Nat) (l : List UInt8) : Nat := l.foldl digStep acc

theorem valN_nil (acc : Nat) : valN acc [] = acc := List.foldl_nil
theorem valN_cons (acc : Nat) (c : UInt8) (l : List UInt8) : valN acc (c :: l) = valN (10 * acc + (c.toNat - 48)) l := List.foldl_cons ..
theorem valN_ge (l : List UInt8) : ∀ acc : Nat, acc ≤ valN acc l := by
  induction l with
  | nil => intro acc; rw [valN_nil]; exact Nat.le_refl _
  | cons c l ih =>
    intro acc
    rw [valN_cons]
    have := ih (10 * acc + (c.toNat - 48))
    omega

def signs : List (List UInt8) := [[60, 61], [61, 61], [33, 61], [38, 38], [124, 124], [123], [125], [40], [41], [91], [93], [59], [58], [44], [46], [61], [43], [45], [42], [47], [37], [60], [33]]
def signAt (r : List UInt8) : Option (List UInt8) := signs.find? fun g => g.isPrefixOf r

/-- A token: its kind, text, number, place. -/
structure Tk where
  kind : Nat
  text : List UInt8
  num : Nat
  at_ : Nat
instance : DecidableEq Tk := fun a b =>
  if h : a.kind = b.kind ∧ a.text = b.text ∧ a.num = b.num ∧ a.at_ = b.at_ then
    isTrue (by obtain ⟨x, y, z, v⟩ := a; obtain ⟨x', y', z', v'⟩ := b; obtain ⟨rfl, rfl, rfl, rfl⟩ := h; rfl)
  else isFalse (fun e => h (by rw [e]; exact ⟨rfl, rfl, rfl, rfl⟩))

/-- A letter stands in front. -/
def nextLet : List UInt8 → Bool
  | [] => false
  | d :: _ => letB (d.toNat : Int)
/-- The digits in front are no number. -/
def numBad (r : List UInt8) : Bool :=
  decide (r.head? = some 48 ∧ 1 < runN digB r) || decide (9223372036854775807 < valN 0 (r.take (runN digB r))) || nextLet (r.drop (runN digB r))

/-- The token in front: its kind, text, number, length. -/
def one (r : List UInt8) : Option (Nat × List UInt8 × Nat × Nat) :=
  match r with
  | [] => none
  | c :: _ =>
    if letB (c.toNat : Int) then
      if isWord (r.take (runN alnB r)) then some (3, r.take (runN alnB r), 0, runN alnB r)
      else if isName (r.take (runN alnB r)) then some (1, r.take (runN alnB r), 0, runN alnB r)
      else none
    else if digB (c.toNat : Int) then
      if numBad r then none
      else some (2, [], valN 0 (r.take (runN digB r)), runN digB r)
    else match signAt r with
      | none => none
      | some g => some (4, g, 0, g.length)

/-- The tokens of a rest that begins at a place, where neither white space nor a comment is in front. -/
def lexF : Nat → Nat → List UInt8 → Except Nat (List Tk)
  | 0, k, _ => .error k
  | _ + 1, _, [] => .ok []
  | f + 1, k, c :: r => match one (c :: r) with
    | none => .error k
    | some (kind, text, num, m) =>
      match lexF f (k + (m + skipS false ((c :: r).drop m))) ((c :: r).drop (m + skipS false ((c :: r).drop m))) with
      | .error e => .error e
      | .ok ts => .ok (⟨kind, text, num, k⟩ :: ts)

def lexAll (l : List UInt8) : Except Nat (List Tk) := lexF (l.length + 1) (skipS false l) (l.drop (skipS false l))

/-- What Tokens answers: the tokens, the error, its place. -/
def toks (l : List UInt8) : List Tk × Nat × Nat :=
  if 6000 < l.length then ([], 4, 0) else
  match lexAll l with
  | .error k => ([], 1, k)
  | .ok ts => (ts ++ [⟨0, [], 0, l.length⟩], 0, 0)

def pre (ts : List Tk) : Except Nat (List Tk) → Except Nat (List Tk)
  | .error e => .error e
  | .ok us => .ok (ts ++ us)

/-! Runs. -/
theorem runN_le (p : Int → Bool) : ∀ l : List UInt8, runN p l ≤ l.length
  | [] => Nat.le_refl _
  | c :: r => by
    rw [runN]
    have := runN_le p r
    split <;> simp <;> omega
theorem runN_yes (p : Int → Bool) (c : UInt8) (r : List UInt8) (h : p (c.toNat : Int) = true) : runN p (c :: r) = runN p r + 1 := by rw [runN, if_pos h]
theorem runN_no (p : Int → Bool) (c : UInt8) (r : List UInt8) (h : p (c.toNat : Int) = false) : runN p (c :: r) = 0 := by rw [runN, if_neg (by rw [h]; decide)]
theorem runN_drop (p : Int → Bool) (l : List UInt8) (k : Nat) (h : k < l.length) : runN p (l.drop k) = if p (l[k].toNat : Int) then runN p (l.drop (k + 1)) + 1 else 0 := by
  rw [List.drop_eq_getElem_cons h, runN]

/-! Blanks. -/
theorem skipS_le : ∀ (l : List UInt8) (b : Bool), skipS b l ≤ l.length
  | [], b => by cases b <;> exact Nat.le_refl _
  | c :: r, true => by
    have := skipS_le r (linB (c.toNat : Int))
    simp only [skipS, List.length_cons]; omega
  | c :: r, false => by
    have h1 := skipS_le r true
    have h2 := skipS_le r false
    simp only [skipS, List.length_cons]
    split
    · omega
    · split <;> omega
theorem spc_not_line {c : Int} (h : linB c = false) : spcB c = true := by
  have : c = 10 := by simpa [linB] using h
  subst this; decide
/-- A comment's rest, up to its line's end. -/
theorem skip_line : ∀ l : List UInt8, skipS true l = runN linB l + skipS false (l.drop (runN linB l))
  | [] => rfl
  | c :: r => by
    cases h : linB (c.toNat : Int)
    · rw [runN_no _ _ _ h, List.drop_zero, skipS, h, skipS, if_pos (spc_not_line h)]; omega
    · rw [runN_yes _ _ _ h, List.drop_succ_cons, skipS, h, skip_line r]; omega
theorem skip_space : ∀ l : List UInt8, skipS false l = runN spcB l + skipS false (l.drop (runN spcB l))
  | [] => rfl
  | c :: r => by
    cases h : spcB (c.toNat : Int)
    · rw [runN_no _ _ _ h, List.drop_zero]; omega
    · rw [runN_yes _ _ _ h, List.drop_succ_cons, skipS, if_pos h, skip_space r]; omega
theorem slash_no_space : spcB ((47 : UInt8).toNat : Int) = false := by decide
theorem skip_slash (r : List UInt8) : skipS false (47 :: 47 :: r) = skipS true (47 :: 47 :: r) := by
  have h1 : linB ((47 : UInt8).toNat : Int) = true := by decide
  have h2 : skipS true (47 :: 47 :: r) = skipS true (47 :: r) + 1 := by
    show skipS (linB ((47 : UInt8).toNat : Int)) (47 :: r) + 1 = _
    rw [h1]
  have h3 : skipS false (47 :: 47 :: r) = if spcB ((47 : UInt8).toNat : Int) then skipS false (47 :: r) + 1 else if (47 : UInt8) = 47 ∧ (47 :: r).head? = some 47 then skipS true (47 :: r) + 1 else 0 := rfl
  rw [h2, h3, if_neg (by rw [slash_no_space]; decide), if_pos ⟨rfl, rfl⟩]
theorem skip_none (c : UInt8) (r : List UInt8) (h : spcB (c.toNat : Int) = false) (h2 : ¬ (c = 47 ∧ r.head? = some 47)) : skipS false (c :: r) = 0 := by
  rw [skipS, if_neg (by rw [h]; decide), if_neg h2]
theorem runN_stop (p : Int → Bool) : ∀ (l : List UInt8) (c : UInt8) (r : List UInt8), l.drop (runN p l) = c :: r → p (c.toNat : Int) = false
  | [], c, r, h => by simp [runN] at h
  | d :: l, c, r, h => by
    cases hd : p (d.toNat : Int)
    · rw [runN_no _ _ _ hd, List.drop_zero] at h
      injection h with h _
      rw [← h]; exact hd
    · rw [runN_yes _ _ _ hd, List.drop_succ_cons] at h
      exact runN_stop p l c r h

/-! The signs. -/
theorem signs_ne : ∀ g ∈ signs, 0 < g.length := by decide
theorem signAt_mem {r g : List UInt8} (h : signAt r = some g) : g ∈ signs := List.mem_of_find?_eq_some h
theorem signAt_pos {r g : List UInt8} (h : signAt r = some g) : 0 < g.length := signs_ne g (signAt_mem h)
theorem signAt_pre {r g : List UInt8} (h : signAt r = some g) : g.isPrefixOf r = true := by
  have := List.find?_some h
  simpa using this
theorem signAt_le {r g : List UInt8} (h : signAt r = some g) : g.length ≤ r.length := by
  have := signAt_pre h
  rw [List.isPrefixOf_iff_prefix] at this
  exact this.length_le

theorem one_len {r : List UInt8} {kind : Nat} {text : List UInt8} {num m : Nat} (h : one r = some (kind, text, num, m)) : 0 < m ∧ m ≤ r.length := by
  unfold one at h
  split at h
  · cases h
  · rename_i c r'
    split at h
    · rename_i hc
      have hl := runN_le alnB (c :: r')
      have h0 : 0 < runN alnB (c :: r') := by rw [runN_yes _ _ _ (by simp [alnB, hc])]; omega
      split at h
      · simp only [Option.some.injEq, Prod.mk.injEq] at h; omega
      · split at h
        · simp only [Option.some.injEq, Prod.mk.injEq] at h; omega
        · cases h
    · split at h
      · rename_i hc
        have hl := runN_le digB (c :: r')
        have h0 : 0 < runN digB (c :: r') := by rw [runN_yes _ _ _ hc]; omega
        split at h
        · cases h
        · simp only [Option.some.injEq, Prod.mk.injEq] at h; omega
      · split at h
        · cases h
        · rename_i g hg
          simp only [Option.some.injEq, Prod.mk.injEq] at h
          have := signAt_pos hg
          have := signAt_le hg
          omega

/-! The state of the scan: what has been read, and what is still to come. -/
def Come (l : List UInt8) (ts : List Tk) (k : Nat) : Prop := ∃ f, l.length - k < f ∧ pre ts (lexF f k (l.drop k)) = lexAll l

theorem come_start (l : List UInt8) : Come l [] (skipS false l) := by
  refine ⟨l.length + 1, by omega, ?_⟩
  unfold lexAll
  cases lexF (l.length + 1) (skipS false l) (l.drop (skipS false l)) <;> rfl
theorem come_end {l : List UInt8} {ts : List Tk} {k : Nat} (h : Come l ts k) (hk : l.length ≤ k) : lexAll l = .ok ts := by
  obtain ⟨f, hf, h⟩ := h
  obtain ⟨f, rfl⟩ : ∃ g, f = g + 1 := ⟨f - 1, by omega⟩
  rw [List.drop_eq_nil_of_le hk] at h
  rw [← h]
  simp [lexF, pre]
theorem come_fault {l : List UInt8} {ts : List Tk} {k : Nat} (h : Come l ts k) (hk : k < l.length) (h1 : one (l.drop k) = none) : lexAll l = .error k := by
  obtain ⟨f, hf, h⟩ := h
  obtain ⟨f, rfl⟩ : ∃ g, f = g + 1 := ⟨f - 1, by omega⟩
  rw [List.drop_eq_getElem_cons hk] at h h1
  rw [← h, lexF, h1]
  rfl
theorem come_next {l : List UInt8} {ts : List Tk} {k : Nat} (h : Come l ts k) (hk : k < l.length) {kind : Nat} {text : List UInt8} {num m : Nat} (h1 : one (l.drop k) = some (kind, text, num, m)) :
    Come l (ts ++ [⟨kind, text, num, k⟩]) (k + m + skipS false (l.drop (k + m))) := by
  obtain ⟨f, hf, h⟩ := h
  obtain ⟨f, rfl⟩ : ∃ g, f = g + 1 := ⟨f - 1, by omega⟩
  have hm := one_len h1
  refine ⟨f, by omega, ?_⟩
  rw [← h]
  rw [List.drop_eq_getElem_cons hk] at h1 ⊢
  rw [lexF, h1]
  simp only []
  rw [← List.drop_eq_getElem_cons hk, List.drop_drop, List.drop_drop]
  rw [show k + (m + skipS false (l.drop (k + m))) = k + m + skipS false (l.drop (k + m)) from by omega]
  cases lexF f (k + m + skipS false (l.drop (k + m))) (l.drop (k + m + skipS false (l.drop (k + m)))) <;> simp [pre]

theorem lexF_len : ∀ (f k : Nat) (r : List UInt8) (ts : List Tk), lexF f k r = .ok ts → ts.length ≤ r.length
  | 0, _, _, _, h => by simp [lexF] at h
  | f + 1, k, [], ts, h => by
    simp only [lexF] at h
    injection h with h
    rw [← h]; simp
  | f + 1, k, c :: r, ts, h => by
    rw [lexF] at h
    split at h
    · cases h
    · rename_i kind text num m h1
      have hm := one_len h1
      split at h
      · cases h
      · rename_i us hu
        have := lexF_len f _ _ us hu
        injection h with h
        rw [← h]
        rw [List.length_drop] at this
        simp only [List.length_cons] at this hm ⊢
        omega
theorem toks_len (l : List UInt8) : (toks l).1.length ≤ 6001 := by
  unfold toks
  by_cases h : 6000 < l.length
  · rw [if_pos h]; simp
  · rw [if_neg h]
    cases h2 : lexAll l with
    | error k => simp
    | ok ts =>
      have := lexF_len _ _ _ ts h2
      rw [List.length_drop] at this
      simp only [List.length_append, List.length_singleton]
      omega
end Lx
end Go.Proofs.YtconbldpomjgkaaDoor
