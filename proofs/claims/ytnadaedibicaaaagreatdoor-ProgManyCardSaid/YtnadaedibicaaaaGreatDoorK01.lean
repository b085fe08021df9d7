/-
  What a text's tokens are, in plain lists (no program): chapter 2 of the document.
  The contracts of the small functions of lex and of the document's answer: letters, digits, white space, runs of bytes.
  What the listed package-level variables give a walk: the two sentinels' cells hold an interface value; the table of lex's signs. And the world that the program's own start leaves meets the condition.
-/
import Derived.Lib.ItoaNum
import Derived.Lib.AtoiAll
import Derived.Lib.AtoiAllCases
import Derived.Test.YtnadaedibicaaaaGreatDoorChecked
import Derived.ProofKit
import Derived.WalkKit
import Derived.BigCall
import Derived.Lib.Hide
import Derived.Lib.Strings
import Derived.Outline
import Derived.Shelf.Abstract
import Derived.Test.YtnadaedibicaaaaGreatDoorRows
import Derived.LaidMore
import Derived.OpenShut
import Derived.Stop.Joined
import Derived.Stop.LaidErr
import Derived.Lib.LaidTab
import Derived.Lib.SmallJoins
namespace Go.Proofs.YtnadaedibicaaaaGreatDoor.Ln
namespace Lx

def letB (c : Int) : Bool := decide (97 ≤ c ∧ c ≤ 122 ∨ 65 ≤ c ∧ c ≤ 90)
def digB (c : Int) : Bool := decide (48 ≤ c ∧ c ≤ 57)
def alnB (c : Int) : Bool := letB c || digB c
def spcB (c : Int) : Bool := decide (c = 32 ∨ c = 9 ∨ c = 10 ∨ c = 13)
def linB (c : Int) : Bool := decide (c ≠ 10)

/-- How many bytes from the front on belong. -/
def runN (p : Int → Bool) : List UInt8 → Nat
  | [] => 0
  | c :: r => if p (c.toNat : Int) then runN p r + 1 else 0

/-- White space and comments (true: within a comment): how many bytes. -/
def skipS : Bool → List UInt8 → Nat
  | _, [] => 0
  | true, c :: r => skipS (linB (c.toNat : Int)) r + 1
  | false, c :: r => if spcB (c.toNat : Int) then skipS false r + 1 else if c = 47 ∧ r.head? = some 47 then skipS true r + 1 else 0

def words : List (List UInt8) := [[114, 101, 99, 111, 114, 100], [103, 108, 111, 98, 97, 108], [102, 117, 110, 99], [118, 97, 114], [108, 101, 116], [105, 102], [101, 108, 115, 101], [119, 104, 105, 108, 101], [114, 101, 116, 117, 114, 110], [112, 114, 105, 110, 116], [110, 117, 108, 108], [110, 101, 119], [108, 101, 110], [114, 101, 97, 100], [116, 114, 117, 101], [102, 97, 108, 115, 101], [105, 110, 116], [98, 111, 111, 108]]
def isWord (l : List UInt8) : Bool := words.contains l
def isName (l : List UInt8) : Bool :=
  match l with
  | [] => false
  | c :: _ => decide (l.length ≤ 8) && letB (c.toNat : Int) && decide (runN alnB l = l.length) && !isWord l

/-- The value of digits. -/
def digStep (a : Nat) (c : UInt8) : Nat := 10 * a + (c.toNat - 48)
def valN (acc : Nat) (l : List UInt8) : Nat := l.foldl digStep acc

theorem valN_nil (acc : Nat) : valN acc [] = acc := List.foldl_nil
theorem valN_cons (acc : Nat) (c : UInt8) (l : List UInt8) : valN acc (c :: l) = valN (10 * acc + (c.toNat - 48)) l := List.foldl_cons ..
theorem valN_ge (l : List UInt8) : ∀ acc : Nat, acc ≤ valN acc l := by
  induction l with
  | nil => intro acc; rw [valN_nil]; exact Nat.le_refl _
  | cons c l ih =>
    intro acc
    rw [valN_cons]
    have := ih (10 * acc + (c.toNat - 48))
    omega

def signs : List (List UInt8) := [[60, 61], [61, 61], [33, 61], [38, 38], [124, 124], [123], [125], [40], [41], [91], [93], [59], [58], [44], [46], [61], [43], [45], [42], [47], [37], [60], [33]]
def signAt (r : List UInt8) : Option (List UInt8) := signs.find? fun g => g.isPrefixOf r

/-- A token: its kind, text, number, place. -/
structure Tk where
  kind : Nat
  text : List UInt8
  num : Nat
  at_ : Nat
instance : DecidableEq Tk := fun a b =>
  if h : a.kind = b.kind ∧ a.text = b.text ∧ a.num = b.num ∧ a.at_ = b.at_ then
    isTrue (by obtain ⟨x, y, z, v⟩ := a; obtain ⟨x', y', z', v'⟩ := b; obtain ⟨rfl, rfl, rfl, rfl⟩ := h; rfl)
  else isFalse (fun e => h (by rw [e]; exact ⟨rfl, rfl, rfl, rfl⟩))

/-- A letter stands in front. -/
def nextLet : List UInt8 → Bool
  | [] => false
  | d :: _ => letB (d.toNat : Int)
/-- The digits in front are no number. -/
def numBad (r : List UInt8) : Bool :=
  decide (r.head? = some 48 ∧ 1 < runN digB r) || decide (9223372036854775807 < valN 0 (r.take (runN digB r))) || nextLet (r.drop (runN digB r))

/-- The token in front: its kind, text, number, length. -/
def one (r : List UInt8) : Option (Nat × List UInt8 × Nat × Nat) :=
  match r with
  | [] => none
  | c :: _ =>
    if letB (c.toNat : Int) then
      if isWord (r.take (runN alnB r)) then some (3, r.take (runN alnB r), 0, runN alnB r)
      else if isName (r.take (runN alnB r)) then some (1, r.take (runN alnB r), 0, runN alnB r)
      else none
    else if digB (c.toNat : Int) then
      if numBad r then none
      else some (2, [], valN 0 (r.take (runN digB r)), runN digB r)
    else match signAt r with
      | none => none
      | some g => some (4, g, 0, g.length)

/-- The tokens of a rest that begins at a place, where neither white space nor a comment is in front. -/
def lexF : Nat → Nat → List UInt8 → Except Nat (List Tk)
  | 0, k, _ => .error k
  | _ + 1, _, [] => .ok []
  | f + 1, k, c :: r => match one (c :: r) with
    | none => .error k
    | some (kind, text, num, m) =>
      match lexF f (k + (m + skipS false ((c :: r).drop m))) ((c :: r).drop (m + skipS false ((c :: r).drop m))) with
      | .error e => .error e
      | .ok ts => .ok (⟨kind, text, num, k⟩ :: ts)

def lexAll (l : List UInt8) : Except Nat (List Tk) := lexF (l.length + 1) (skipS false l) (l.drop (skipS false l))

/-- What Tokens answers: the tokens, the error, its place. -/
def toks (l : List UInt8) : List Tk × Nat × Nat :=
  if 6000 < l.length then ([], 4, 0) else
  match lexAll l with
  | .error k => ([], 1, k)
  | .ok ts => (ts ++ [⟨0, [], 0, l.length⟩], 0, 0)

def pre (ts : List Tk) : Except Nat (List Tk) → Except Nat (List Tk)
  | .error e => .error e
  | .ok us => .ok (ts ++ us)

/-! Runs. -/
theorem runN_le (p : Int → Bool) : ∀ l : List UInt8, runN p l ≤ l.length
  | [] => Nat.le_refl _
  | c :: r => by
    rw [runN]
    have := runN_le p r
    split <;> simp <;> omega
theorem runN_yes (p : Int → Bool) (c : UInt8) (r : List UInt8) (h : p (c.toNat : Int) = true) : runN p (c :: r) = runN p r + 1 := by rw [runN, if_pos h]
theorem runN_no (p : Int → Bool) (c : UInt8) (r : List UInt8) (h : p (c.toNat : Int) = false) : runN p (c :: r) = 0 := by rw [runN, if_neg (by rw [h]; decide)]
/-! Blanks. -/
theorem skipS_le : ∀ (l : List UInt8) (b : Bool), skipS b l ≤ l.length
  | [], b => by cases b <;> exact Nat.le_refl _
  | c :: r, true => by
    have := skipS_le r (linB (c.toNat : Int))
    simp only [skipS, List.length_cons]; omega
  | c :: r, false => by
    have h1 := skipS_le r true
    have h2 := skipS_le r false
    simp only [skipS, List.length_cons]
    split
    · omega
    · split <;> omega
theorem spc_not_line {c : Int} (h : linB c = false) : spcB c = true := by
  have : c = 10 := by simpa [linB] using h
  subst this; decide
/-- A comment's rest, up to its line's end. -/
theorem skip_line : ∀ l : List UInt8, skipS true l = runN linB l + skipS false (l.drop (runN linB l))
  | [] => rfl
  | c :: r => by
    cases h : linB (c.toNat : Int)
    · rw [runN_no _ _ _ h, List.drop_zero, skipS, h, skipS, if_pos (spc_not_line h)]; omega
    · rw [runN_yes _ _ _ h, List.drop_succ_cons, skipS, h, skip_line r]; omega
theorem skip_space : ∀ l : List UInt8, skipS false l = runN spcB l + skipS false (l.drop (runN spcB l))
  | [] => rfl
  | c :: r => by
    cases h : spcB (c.toNat : Int)
    · rw [runN_no _ _ _ h, List.drop_zero]; omega
    · rw [runN_yes _ _ _ h, List.drop_succ_cons, skipS, if_pos h, skip_space r]; omega
theorem slash_no_space : spcB ((47 : UInt8).toNat : Int) = false := by decide
theorem skip_slash (r : List UInt8) : skipS false (47 :: 47 :: r) = skipS true (47 :: 47 :: r) := by
  have h1 : linB ((47 : UInt8).toNat : Int) = true := by decide
  have h2 : skipS true (47 :: 47 :: r) = skipS true (47 :: r) + 1 := by
    show skipS (linB ((47 : UInt8).toNat : Int)) (47 :: r) + 1 = _
    rw [h1]
  have h3 : skipS false (47 :: 47 :: r) = if spcB ((47 : UInt8).toNat : Int) then skipS false (47 :: r) + 1 else if (47 : UInt8) = 47 ∧ (47 :: r).head? = some 47 then skipS true (47 :: r) + 1 else 0 := rfl
  rw [h2, h3, if_neg (by rw [slash_no_space]; decide), if_pos ⟨rfl, rfl⟩]
theorem skip_none (c : UInt8) (r : List UInt8) (h : spcB (c.toNat : Int) = false) (h2 : ¬ (c = 47 ∧ r.head? = some 47)) : skipS false (c :: r) = 0 := by
  rw [skipS, if_neg (by rw [h]; decide), if_neg h2]
theorem runN_stop (p : Int → Bool) : ∀ (l : List UInt8) (c : UInt8) (r : List UInt8), l.drop (runN p l) = c :: r → p (c.toNat : Int) = false
  | [], c, r, h => by simp [runN] at h
  | d :: l, c, r, h => by
    cases hd : p (d.toNat : Int)
    · rw [runN_no _ _ _ hd, List.drop_zero] at h
      injection h with h _
      rw [← h]; exact hd
    · rw [runN_yes _ _ _ hd, List.drop_succ_cons] at h
      exact runN_stop p l c r h

/-! The signs. -/
theorem signs_ne : ∀ g ∈ signs, 0 < g.length := by decide
theorem signAt_mem {r g : List UInt8} (h : signAt r = some g) : g ∈ signs := List.mem_of_find?_eq_some h
theorem signAt_pos {r g : List UInt8} (h : signAt r = some g) : 0 < g.length := signs_ne g (signAt_mem h)
theorem signAt_pre {r g : List UInt8} (h : signAt r = some g) : g.isPrefixOf r = true := by
  have := List.find?_some h
  simpa using this
theorem signAt_le {r g : List UInt8} (h : signAt r = some g) : g.length ≤ r.length := by
  have := signAt_pre h
  rw [List.isPrefixOf_iff_prefix] at this
  exact this.length_le

theorem one_len {r : List UInt8} {kind : Nat} {text : List UInt8} {num m : Nat} (h : one r = some (kind, text, num, m)) : 0 < m ∧ m ≤ r.length := by
  unfold one at h
  split at h
  · cases h
  · rename_i c r'
    split at h
    · rename_i hc
      have hl := runN_le alnB (c :: r')
      have h0 : 0 < runN alnB (c :: r') := by rw [runN_yes _ _ _ (by simp [alnB, hc])]; omega
      split at h
      · simp only [Option.some.injEq, Prod.mk.injEq] at h; omega
      · split at h
        · simp only [Option.some.injEq, Prod.mk.injEq] at h; omega
        · cases h
    · split at h
      · rename_i hc
        have hl := runN_le digB (c :: r')
        have h0 : 0 < runN digB (c :: r') := by rw [runN_yes _ _ _ hc]; omega
        split at h
        · cases h
        · simp only [Option.some.injEq, Prod.mk.injEq] at h; omega
      · split at h
        · cases h
        · rename_i g hg
          simp only [Option.some.injEq, Prod.mk.injEq] at h
          have := signAt_pos hg
          have := signAt_le hg
          omega

/-! The state of the scan: what has been read, and what is still to come. -/
def Come (l : List UInt8) (ts : List Tk) (k : Nat) : Prop := ∃ f, l.length - k < f ∧ pre ts (lexF f k (l.drop k)) = lexAll l

theorem come_start (l : List UInt8) : Come l [] (skipS false l) := by
  refine ⟨l.length + 1, by omega, ?_⟩
  unfold lexAll
  cases lexF (l.length + 1) (skipS false l) (l.drop (skipS false l)) <;> rfl
theorem come_end {l : List UInt8} {ts : List Tk} {k : Nat} (h : Come l ts k) (hk : l.length ≤ k) : lexAll l = .ok ts := by
  obtain ⟨f, hf, h⟩ := h
  obtain ⟨f, rfl⟩ : ∃ g, f = g + 1 := ⟨f - 1, by omega⟩
  rw [List.drop_eq_nil_of_le hk] at h
  rw [← h]
  simp [lexF, pre]
theorem come_fault {l : List UInt8} {ts : List Tk} {k : Nat} (h : Come l ts k) (hk : k < l.length) (h1 : one (l.drop k) = none) : lexAll l = .error k := by
  obtain ⟨f, hf, h⟩ := h
  obtain ⟨f, rfl⟩ : ∃ g, f = g + 1 := ⟨f - 1, by omega⟩
  rw [List.drop_eq_getElem_cons hk] at h h1
  rw [← h, lexF, h1]
  rfl
theorem come_next {l : List UInt8} {ts : List Tk} {k : Nat} (h : Come l ts k) (hk : k < l.length) {kind : Nat} {text : List UInt8} {num m : Nat} (h1 : one (l.drop k) = some (kind, text, num, m)) :
    Come l (ts ++ [⟨kind, text, num, k⟩]) (k + m + skipS false (l.drop (k + m))) := by
  obtain ⟨f, hf, h⟩ := h
  obtain ⟨f, rfl⟩ : ∃ g, f = g + 1 := ⟨f - 1, by omega⟩
  have hm := one_len h1
  refine ⟨f, by omega, ?_⟩
  rw [← h]
  rw [List.drop_eq_getElem_cons hk] at h1 ⊢
  rw [lexF, h1]
  simp only []
  rw [← List.drop_eq_getElem_cons hk, List.drop_drop, List.drop_drop]
  rw [show k + (m + skipS false (l.drop (k + m))) = k + m + skipS false (l.drop (k + m)) from by omega]
  cases lexF f (k + m + skipS false (l.drop (k + m))) (l.drop (k + m + skipS false (l.drop (k + m)))) <;> simp [pre]

theorem lexF_len : ∀ (f k : Nat) (r : List UInt8) (ts : List Tk), lexF f k r = .ok ts → ts.length ≤ r.length
  | 0, _, _, _, h => by simp [lexF] at h
  | f + 1, k, [], ts, h => by
    simp only [lexF] at h
    injection h with h
    rw [← h]; simp
  | f + 1, k, c :: r, ts, h => by
    rw [lexF] at h
    split at h
    · cases h
    · rename_i kind text num m h1
      have hm := one_len h1
      split at h
      · cases h
      · rename_i us hu
        have := lexF_len f _ _ us hu
        injection h with h
        rw [← h]
        rw [List.length_drop] at this
        simp only [List.length_cons] at this hm ⊢
        omega
theorem toks_len (l : List UInt8) : (toks l).1.length ≤ 6001 := by
  unfold toks
  by_cases h : 6000 < l.length
  · rw [if_pos h]; simp
  · rw [if_neg h]
    cases h2 : lexAll l with
    | error k => simp
    | ok ts =>
      have := lexF_len _ _ _ ts h2
      rw [List.length_drop] at this
      simp only [List.length_append, List.length_singleton]
      omega
end Lx
end Go.Proofs.YtnadaedibicaaaaGreatDoor.Ln
namespace Go.Proofs.YtnadaedibicaaaaGreatDoor.Ln
open Go.RowKit

def bs (l : List UInt8) : ByteArray := ⟨l.toArray⟩
theorem bs_size (l : List UInt8) : (bs l).size = l.length := rfl
theorem bs_of (s : ByteArray) : bs s.data.toList = s := rfl

theorem ret_bool {a b : Bool} (h : a = b) : Ending.returned (.bool a) = .returned (.bool b) := by rw [h]
theorem ret_int {k : IntKind} {a b : Int} (h : a = b) : Ending.returned (.int k a) = .returned (.int k b) := by rw [h]

set_option maxRecDepth 8000 in
set_option maxHeartbeats 400000 in
theorem letter_any (c : Int) (w : World) : Calls Tryz.prog 64 #[.int .u8 c] w fun e w' => e = .returned (.bool (Lx.letB c)) ∧ w = w' := by
  go_enter Tryz.func64, Tryz.ntmps64
  go_wp2
  all_goals
    go_ret
    refine ⟨ret_bool ?_, rfl⟩
    rw [Bool.eq_iff_iff]
    simp [Lx.letB]
    try omega
set_option maxRecDepth 8000 in
set_option maxHeartbeats 400000 in
theorem digit_any (c : Int) (w : World) : Calls Tryz.prog 66 #[.int .u8 c] w fun e w' => e = .returned (.bool (Lx.digB c)) ∧ w = w' := by
  go_enter Tryz.func66, Tryz.ntmps66
  go_wp2
  all_goals
    go_ret
    refine ⟨ret_bool ?_, rfl⟩
    rw [Bool.eq_iff_iff]
    simp [Lx.digB]
    try omega
set_option maxRecDepth 8000 in
set_option maxHeartbeats 400000 in
theorem space_any (c : Int) (w : World) : Calls Tryz.prog 61 #[.int .u8 c] w fun e w' => e = .returned (.bool (Lx.spcB c)) ∧ w = w' := by
  go_enter Tryz.func61, Tryz.ntmps61
  go_wp2
  all_goals
    go_ret
    refine ⟨ret_bool ?_, rfl⟩
    rw [Bool.eq_iff_iff]
    simp [Lx.spcB]
    try omega
set_option maxRecDepth 8000 in
set_option maxHeartbeats 400000 in
theorem line_any (c : Int) (w : World) : Calls Tryz.prog 63 #[.int .u8 c] w fun e w' => e = .returned (.bool (Lx.linB c)) ∧ w = w' := by
  go_enter Tryz.func63, Tryz.ntmps63
  go_wp2
  all_goals
    go_ret
    refine ⟨ret_bool ?_, rfl⟩
    rw [Bool.eq_iff_iff]
    simp [Lx.linB]
    try omega
set_option maxRecDepth 8000 in
set_option maxHeartbeats 400000 in
theorem alnum_any (c : Int) (w : World) : Calls Tryz.prog 98 #[.int .u8 c] w fun e w' => e = .returned (.bool (Lx.alnB c)) ∧ w = w' := by
  cases h : Lx.letB c
  · have hl := letter_any c
    have hd := digit_any c
    rw [h] at hl
    have h2 : Lx.alnB c = Lx.digB c := by simp [Lx.alnB, h]
    have HL := Lib.hid hl
    have HD := Lib.hid hd
    rw [h2]
    clear hl hd h h2
    go_enter Tryz.func98, Tryz.ntmps98
    go_wp2_with (first | (go_at_call 64; refine (HL.out _).mono ?_; rintro e w' ⟨rfl, rfl⟩) | (go_at_call 66; refine (HD.out _).mono ?_; rintro e w' ⟨rfl, rfl⟩))
    go_ret
    exact ⟨rfl, rfl⟩
  · have hl := letter_any c
    rw [h] at hl
    have h2 : Lx.alnB c = true := by simp [Lx.alnB, h]
    have HL := Lib.hid hl
    rw [h2]
    clear hl h h2
    go_enter Tryz.func98, Tryz.ntmps98
    go_wp2_with (go_at_call 64; refine (HL.out _).mono ?_; rintro e w' ⟨rfl, rfl⟩)
    go_ret
    exact ⟨rfl, rfl⟩

/-- A function of the program that answers whether a byte belongs. -/
structure Belongs (F : FuncId) (p : Int → Bool) : Prop where
  enter : ∀ (args : Array Value) (w : World), (callFunc F args).run Tryz.prog w = .ok (.enter F args) w
  ans : ∀ (c : Int) (w : World), Calls Tryz.prog F #[.int .u8 c] w fun e w' => e = .returned (.bool (p c)) ∧ w = w'
theorem alnum_is : Belongs 98 Lx.alnB := ⟨enters_of Tryz.func98 (by kernel_rfl) rfl, alnum_any⟩
theorem digit_is : Belongs 66 Lx.digB := ⟨enters_of Tryz.func66 (by kernel_rfl) rfl, digit_any⟩
theorem space_is : Belongs 61 Lx.spcB := ⟨enters_of Tryz.func61 (by kernel_rfl) rfl, space_any⟩
theorem line_is : Belongs 63 Lx.linB := ⟨enters_of Tryz.func63 (by kernel_rfl) rfl, line_any⟩

theorem drop_at (s : ByteArray) (j : Nat) (h : j < s.size) : s.data.toList.drop j = s[j] :: s.data.toList.drop (j + 1) := List.drop_eq_getElem_cons (by simpa using h)
theorem run_at (s : ByteArray) (p : Int → Bool) (j : Nat) (h : j < s.size) : Lx.runN p (s.data.toList.drop j) = if p (s[j].toNat : Int) then Lx.runN p (s.data.toList.drop (j + 1)) + 1 else 0 := by
  rw [drop_at s j h, Lx.runN]
theorem drop_out (s : ByteArray) (j : Nat) (h : s.size ≤ j) : s.data.toList.drop j = [] := List.drop_eq_nil_of_le (by simpa using h)
theorem len_of (s : ByteArray) : s.data.toList.length = s.size := by simp

set_option maxRecDepth 8000 in
set_option maxHeartbeats 400000 in
theorem run_any (F : FuncId) (p : Int → Bool) (hF : Belongs F p) (s : ByteArray) (hs : s.size ≤ maxLen) (a : Int) (k : Nat) (ha : a = k) (hk : k ≤ s.size) (w : World) :
    Calls Tryz.prog 60 #[.string s, .int .i64 a, .func (.func F) #[] #[]] w fun e w' => e = .returned (.int .i64 (k + Lx.runN p (s.data.toList.drop k) : Nat)) ∧ w = w' := by
  subst ha
  unfold maxLen at hs
  have hR := Lx.runN_le p (s.data.toList.drop k)
  rw [List.length_drop] at hR
  have hz : s.data.toList.length = s.size := by simp
  generalize hG : k + Lx.runN p (s.data.toList.drop k) = G
  have HG := Lib.hid hG
  have hGb : G ≤ s.size := by omega
  have hE := hF.enter
  have HF := Lib.hid hF.ans
  clear hG hz hR hF
  go_enter Tryz.func60, Tryz.ntmps60
  go_wp2
  go_loop [1] (fun i => ∃ j : Nat, j ≤ s.size ∧ i = .int .i64 j ∧ j + Lx.runN p (s.data.toList.drop j) = G) (fun i => s.size - (intOf i).toNat)
  case atStart => exact ⟨k, hk, rfl, HG.out⟩
  case round =>
    obtain ⟨j, hj, rfl, hJ⟩ := hrel
    have HJ := Lib.hid hJ
    clear hJ
    by_cases hlt : j < s.size
    · cases hp : p (s[j].toNat : Int)
      · have hc := HF.out (s[j].toNat : Int)
        rw [hp] at hc
        have HC := Lib.hid hc
        clear hc
        have HP := Lib.hid hp
        clear hp
        go_wp2_with (go_at_fn F; refine (HC.out _).mono ?_; rintro e w' ⟨rfl, rfl⟩)
        go_ret
        have hJ := HJ.out
        rw [run_at s p j hlt, if_neg (by rw [HP.out]; decide)] at hJ
        exact ⟨ret_int (by omega), rfl⟩
      · have hc := HF.out (s[j].toNat : Int)
        rw [hp] at hc
        have HC := Lib.hid hc
        clear hc
        have HP := Lib.hid hp
        clear hp
        go_wp2_with (go_at_fn F; refine (HC.out _).mono ?_; rintro e w' ⟨rfl, rfl⟩)
        go_round
        case rel =>
          have hJ := HJ.out
          rw [run_at s p j hlt, if_pos HP.out] at hJ
          exact ⟨j + 1, by omega, by go_num, by omega⟩
        case measure => simp [intOf]; omega
    · go_wp2
      go_ret
      have hJ := HJ.out
      rw [List.drop_eq_nil_of_le (by simp; omega), Lx.runN] at hJ
      exact ⟨ret_int (by omega), rfl⟩
end Go.Proofs.YtnadaedibicaaaaGreatDoor.Ln
namespace Go.Proofs.YtnadaedibicaaaaGreatDoor.Ln
open Go.ChangeShapes Go.WideShapes Go.ChangeAt Go.WideMaps Go.WideElems Go.RowKit

/-! An array of strings that reads as a table of texts. -/
def textData {H : Type} (zs : List (List UInt8)) : DataW H := .agg (zs.map fun z => .lit (.string z))
theorem cells_of_texts {H : Type} {enc : TypeId × Value → H} {P : Program} {w : World} {base : Nat} {sp : Nat → Bool} {held : Bool} {fuel : Nat} {t e : TypeId} {n : Nat} {cs : List Value} {zs : List (List UInt8)} {p : List MemPlace}
    (ht : P.underlying t = some (.array n e)) (he : P.underlying e = some .string) (hce : P.cellsOf e = 1) (hct : P.cellsOf t = n)
    (h : DataW.trod enc P w base sp held fuel t cs = some (textData zs, p)) : cs = zs.map fun z => Value.string (bs z) := by
  cases fuel with
  | zero => simp [DataW.trod] at h
  | succ fuel =>
    simp only [DataW.trod, ht, hce, hct, Nat.mul_one] at h
    split at h
    · rename_i hl
      obtain ⟨xs, hm, hx⟩ := Option.map_eq_some_iff.1 h
      have hxs : xs.map (·.1) = zs.map fun z => (DataW.lit (.string z) : DataW H) := by
        have := congrArg Prod.fst hx
        simpa [textData] using this
      have hxl : xs.length = n := by simpa using Lib.mapM_length hm
      have hzl : zs.length = n := by
        have := congrArg List.length hxs
        simp at this
        omega
      apply List.ext_getElem?
      intro i
      by_cases hi : i < n
      · obtain ⟨b, hb, hf⟩ := Lib.mapM_at hm i i (by simp [hi])
        obtain ⟨z, hc, hbz, _⟩ := DataW.trod_string he hf
        have h1 : cs[i]? = some (.string z) := by
          have := congrArg (·[0]?) hc
          simpa [List.getElem?_take, List.getElem?_drop] using this
        have h2 : (xs.map (·.1))[i]? = some (DataW.lit (.string z.data.toList) : DataW H) := by simp [hb, hbz]
        rw [hxs] at h2
        simp only [List.getElem?_map, Option.map_eq_some_iff, DataW.lit.injEq, Lit.string.injEq] at h2
        obtain ⟨z', hz', hq⟩ := h2
        rw [h1, List.getElem?_map, hz', hq]
        rfl
      · rw [List.getElem?_eq_none (by omega), List.getElem?_eq_none (by simp; omega)]
    · cases h

theorem heap_of_var {P : Program} {w : World} {n : String} {g : Nat} {cs : Array Value} (hg : P.globalNamed n = some g) (h : w.var? P n = some cs) : ∃ t fr, w.heap[g]? = some (.cells cs t fr) := by
  simp only [World.var?, hg, Option.bind_some] at h
  split at h
  · rename_i cs' t fr he
    injection h with h
    exact ⟨t, fr, by rw [he, h]⟩
  · cases h
theorem textIs_of_head {P : Program} {W : World} {name : String} {zs : List (List UInt8)} {rest : List (String × DataW Unit)} {g : Nat} {t e : TypeId} {n : Nat}
    (hg : P.globalNamed name = some g) (hty : (P.globals[g]?).map (·.type) = some t) (ht : P.underlying t = some (.array n e)) (he : P.underlying e = some .string) (hce : P.cellsOf e = 1) (hct : P.cellsOf t = n)
    (h : laidMet P ((name, textData zs) :: rest) W) : ∃ t' fr, W.heap[g]? = some (.cells (zs.map fun z => Value.string (bs z)).toArray t' fr) := by
  obtain ⟨ps, ⟨g', t', cs, fuel, p, q, hg', ht', hvar, hd, _, _⟩, _⟩ := h
  obtain rfl := Option.some.inj (hg.symm.trans hg')
  obtain rfl := Option.some.inj (hty.symm.trans ht')
  refine heap_of_var hg ?_
  rw [hvar, ← cells_of_texts ht he hce hct hd]

def signsV : Array Value := (Lx.signs.map fun z => Value.string (bs z)).toArray
theorem signsV_size : signsV.size = 23 := by simp [signsV, Lx.signs]
theorem signsV_at {j : Nat} {g : List UInt8} (h : Lx.signs[j]? = some g) : signsV[j]? = some (.string (bs g)) := by
  simp [signsV, h]

/-- What a walk wants of the listed variables. -/
structure Env (w : World) : Prop where
  syn : ∃ a, w.cell? ⟨1, 0, none⟩ = some (.iface 180 (.pointer (some a)))
  ran : ∃ a, w.cell? ⟨2, 0, none⟩ = some (.iface 180 (.pointer (some a)))
  sig : ∃ t fr, w.heap[0]? = some (.cells signsV t fr)

theorem cell_lt {w : World} {b o : Nat} {v : Value} (h : w.cell? ⟨b, o, none⟩ = some v) : b < w.heap.size := by
  rcases Nat.lt_or_ge b w.heap.size with h' | h'
  · exact h'
  · simp [World.cell?, Array.getElem?_eq_none h'] at h
theorem heap_lt {w : World} {b : Nat} {v : Obj} (h : w.heap[b]? = some v) : b < w.heap.size := (Array.getElem?_eq_some_iff.1 h).1

theorem Env.below {w w' : World} (h : Env w) (hb : Below w.heap.size w w') : Env w' := by
  refine ⟨?_, ?_, ?_⟩
  · obtain ⟨a, ha⟩ := h.syn
    exact ⟨a, by rw [hb.cell (p := ⟨_, _, _⟩) (cell_lt ha)]; exact ha⟩
  · obtain ⟨a, ha⟩ := h.ran
    exact ⟨a, by rw [hb.cell (p := ⟨_, _, _⟩) (cell_lt ha)]; exact ha⟩
  · obtain ⟨t, fr, ha⟩ := h.sig
    exact ⟨t, fr, by rw [hb.block _ (heap_lt ha)]; exact ha⟩

theorem signs_is : (Rows.laid_runrig_lex_signs : DataW Unit) = textData Lx.signs := by kernel_rfl

theorem gSyn : Tryz.prog.globalNamed "strconv.ErrSyntax" = some 1 := by kernel_rfl
theorem gRan : Tryz.prog.globalNamed "strconv.ErrRange" = some 2 := by kernel_rfl
theorem gSynT : (Tryz.prog.globals[1]?).map (·.type) = some 130 := by kernel_rfl
theorem gRanT : (Tryz.prog.globals[2]?).map (·.type) = some 130 := by kernel_rfl
theorem starE : ("*errors.errorString" : String) = "*" ++ "errors.errorString" := by decide
theorem rowE (u : TypeId) (h : Tryz.prog.typeName? 3 u = some "*errors.errorString") : u = 180 :=
  typeName_ptr_named (nm := "errors.errorString") (by rw [← starE]; kernel_rfl) (by kernel_rfl) (by decide) u (by rw [← starE]; exact h)

end Go.Proofs.YtnadaedibicaaaaGreatDoor.Ln
