/-
  What the answer's scanner (runrigref2) does, and its contracts.
-/
import Derived.Lib.ItoaNum
import Derived.Lib.AtoiAll
import Derived.Lib.AtoiAllCases
import Derived.Test.YtnadaedibicaaaaDoorChecked
import Derived.ProofKit
import Derived.WalkKit
import Derived.BigCall
import Derived.Lib.Hide
import Derived.Lib.Strings
import Derived.Outline
import Derived.Shelf.Abstract
import Derived.Laws.DeepStrings4
import Derived.LaidMore
import Derived.OpenShut
import Derived.Stop.Joined
import Derived.Stop.LaidErr
import Derived.Lib.LaidTab
import Derived.Lib.SmallJoins
import Derived.Lib.AtoiErrMem
import Derived.Deep.QuietTactic
import Derived.BigQuiet
import Derived.IntWalk
namespace Go.Proofs.YtnadaedibicaaaaDoor.Ln
namespace Lx

def letB (c : Int) : Bool := decide (97 ≤ c ∧ c ≤ 122 ∨ 65 ≤ c ∧ c ≤ 90)
def digB (c : Int) : Bool := decide (48 ≤ c ∧ c ≤ 57)
def alnB (c : Int) : Bool := letB c || digB c
def spcB (c : Int) : Bool := decide (c = 32 ∨ c = 9 ∨ c = 10 ∨ c = 13)
def linB (c : Int) : Bool := decide (c ≠ 10)

/-- How many bytes from the front on belong. -/
def runN (p : Int → Bool) : List UInt8 → Nat
  | [] => 0
  | c :: r => if p (c.toNat : Int) then runN p r + 1 else 0

/-- White space and comments (true: within a comment): how many bytes. -/
def skipS : Bool → List UInt8 → Nat
  | _, [] => 0
  | true, c :: r => skipS (linB (c.toNat : Int)) r + 1
  | false, c :: r => if spcB (c.toNat : Int) then skipS false r + 1 else if c = 47 ∧ r.head? = some 47 then skipS true r + 1 else 0

def words : List (List UInt8) := [[114, 101, 99, 111, 114, 100], [103, 108, 111, 98, 97, 108], [102, 117, 110, 99], [118, 97, 114], [108, 101, 116], [105, 102], [101, 108, 115, 101], [119, 104, 105, 108, 101], [114, 101, 116, 117, 114, 110], [112, 114, 105, 110, 116], [110, 117, 108, 108], [110, 101, 119], [108, 101, 110], [114, 101, 97, 100], [116, 114, 117, 101], [102, 97, 108, 115, 101], [105, 110, 116], [98, 111, 111, 108]]
def isWord (l : List UInt8) : Bool := words.contains l
def isName (l : List UInt8) : Bool :=
  match l with
  | [] => false
  | c :: _ => decide (l.length ≤ 8) && letB (c.toNat : Int) && decide (runN alnB l = l.length) && !isWord l

/-- The value of digits. -/
def digStep (a : Nat) (c : UInt8) : Nat := 10 * a + (c.toNat - 48)
def valN (acc : Nat) (l : List UInt8) : Nat := l.foldl digStep acc

theorem valN_nil (acc : Nat) : valN acc [] = acc := List.foldl_nil
theorem valN_cons (acc : Nat) (c : UInt8) (l : List UInt8) : valN acc (c :: l) = valN (10 * acc + (c.toNat - 48)) l := List.foldl_cons ..
theorem valN_ge (l : List UInt8) : ∀ acc : Nat, acc ≤ valN acc l := by
  induction l with
  | nil => intro acc; rw [valN_nil]; exact Nat.le_refl _
  | cons c l ih =>
    intro acc
    rw [valN_cons]
    have := ih (10 * acc + (c.toNat - 48))
    omega

def signs : List (List UInt8) := [[60, 61], [61, 61], [33, 61], [38, 38], [124, 124], [123], [125], [40], [41], [91], [93], [59], [58], [44], [46], [61], [43], [45], [42], [47], [37], [60], [33]]
def signAt (r : List UInt8) : Option (List UInt8) := signs.find? fun g => g.isPrefixOf r

/-- A token: its kind, text, number, place. -/
structure Tk where
  kind : Nat
  text : List UInt8
  num : Nat
  at_ : Nat
instance : DecidableEq Tk := fun a b =>
  if h : a.kind = b.kind ∧ a.text = b.text ∧ a.num = b.num ∧ a.at_ = b.at_ then
    isTrue (by obtain ⟨x, y, z, v⟩ := a; obtain ⟨x', y', z', v'⟩ := b; obtain ⟨rfl, rfl, rfl, rfl⟩ := h; rfl)
  else isFalse (fun e => h (by rw [e]; exact ⟨rfl, rfl, rfl, rfl⟩))

/-- A letter stands in front. -/
def nextLet : List UInt8 → Bool
  | [] => false
  | d :: _ => letB (d.toNat : Int)
/-- The digits in front are no number. -/
def numBad (r : List UInt8) : Bool :=
  decide (r.head? = some 48 ∧ 1 < runN digB r) || decide (9223372036854775807 < valN 0 (r.take (runN digB r))) || nextLet (r.drop (runN digB r))

/-- The token in front: its kind, text, number, length. -/
def one (r : List UInt8) : Option (Nat × List UInt8 × Nat × Nat) :=
  match r with
  | [] => none
  | c :: _ =>
    if letB (c.toNat : Int) then
      if isWord (r.take (runN alnB r)) then some (3, r.take (runN alnB r), 0, runN alnB r)
      else if isName (r.take (runN alnB r)) then some (1, r.take (runN alnB r), 0, runN alnB r)
      else none
    else if digB (c.toNat : Int) then
      if numBad r then none
      else some (2, [], valN 0 (r.take (runN digB r)), runN digB r)
    else match signAt r with
      | none => none
      | some g => some (4, g, 0, g.length)

/-- The tokens of a rest that begins at a place, where neither white space nor a comment is in front. -/
def lexF : Nat → Nat → List UInt8 → Except Nat (List Tk)
  | 0, k, _ => .error k
  | _ + 1, _, [] => .ok []
  | f + 1, k, c :: r => match one (c :: r) with
    | none => .error k
    | some (kind, text, num, m) =>
      match lexF f (k + (m + skipS false ((c :: r).drop m))) ((c :: r).drop (m + skipS false ((c :: r).drop m))) with
      | .error e => .error e
      | .ok ts => .ok (⟨kind, text, num, k⟩ :: ts)

def lexAll (l : List UInt8) : Except Nat (List Tk) := lexF (l.length + 1) (skipS false l) (l.drop (skipS false l))

/-- What Tokens answers: the tokens, the error, its place. -/
def toks (l : List UInt8) : List Tk × Nat × Nat :=
  if 6000 < l.length then ([], 4, 0) else
  match lexAll l with
  | .error k => ([], 1, k)
  | .ok ts => (ts ++ [⟨0, [], 0, l.length⟩], 0, 0)

def pre (ts : List Tk) : Except Nat (List Tk) → Except Nat (List Tk)
  | .error e => .error e
  | .ok us => .ok (ts ++ us)

/-! Runs. -/
theorem runN_le (p : Int → Bool) : ∀ l : List UInt8, runN p l ≤ l.length
  | [] => Nat.le_refl _
  | c :: r => by
    rw [runN]
    have := runN_le p r
    split <;> simp <;> omega
theorem runN_yes (p : Int → Bool) (c : UInt8) (r : List UInt8) (h : p (c.toNat : Int) = true) : runN p (c :: r) = runN p r + 1 := by rw [runN, if_pos h]
theorem runN_no (p : Int → Bool) (c : UInt8) (r : List UInt8) (h : p (c.toNat : Int) = false) : runN p (c :: r) = 0 := by rw [runN, if_neg (by rw [h]; decide)]
theorem runN_drop (p : Int → Bool) (l : List UInt8) (k : Nat) (h : k < l.length) : runN p (l.drop k) = if p (l[k].toNat : Int) then runN p (l.drop (k + 1)) + 1 else 0 := by
  rw [List.drop_eq_getElem_cons h, runN]

/-! Blanks. -/
theorem skipS_le : ∀ (l : List UInt8) (b : Bool), skipS b l ≤ l.length
  | [], b => by cases b <;> exact Nat.le_refl _
  | c :: r, true => by
    have := skipS_le r (linB (c.toNat : Int))
    simp only [skipS, List.length_cons]; omega
  | c :: r, false => by
    have h1 := skipS_le r true
    have h2 := skipS_le r false
    simp only [skipS, List.length_cons]
    split
    · omega
    · split <;> omega
theorem spc_not_line {c : Int} (h : linB c = false) : spcB c = true := by
  have : c = 10 := by simpa [linB] using h
  subst this; decide
/-- A comment's rest, up to its line's end. -/
theorem skip_line : ∀ l : List UInt8, skipS true l = runN linB l + skipS false (l.drop (runN linB l))
  | [] => rfl
  | c :: r => by
    cases h : linB (c.toNat : Int)
    · rw [runN_no _ _ _ h, List.drop_zero, skipS, h, skipS, if_pos (spc_not_line h)]; omega
    · rw [runN_yes _ _ _ h, List.drop_succ_cons, skipS, h, skip_line r]; omega
theorem skip_space : ∀ l : List UInt8, skipS false l = runN spcB l + skipS false (l.drop (runN spcB l))
  | [] => rfl
  | c :: r => by
    cases h : spcB (c.toNat : Int)
    · rw [runN_no _ _ _ h, List.drop_zero]; omega
    · rw [runN_yes _ _ _ h, List.drop_succ_cons, skipS, if_pos h, skip_space r]; omega
theorem slash_no_space : spcB ((47 : UInt8).toNat : Int) = false := by decide
theorem skip_slash (r : List UInt8) : skipS false (47 :: 47 :: r) = skipS true (47 :: 47 :: r) := by
  have h1 : linB ((47 : UInt8).toNat : Int) = true := by decide
  have h2 : skipS true (47 :: 47 :: r) = skipS true (47 :: r) + 1 := by
    show skipS (linB ((47 : UInt8).toNat : Int)) (47 :: r) + 1 = _
    rw [h1]
  have h3 : skipS false (47 :: 47 :: r) = if spcB ((47 : UInt8).toNat : Int) then skipS false (47 :: r) + 1 else if (47 : UInt8) = 47 ∧ (47 :: r).head? = some 47 then skipS true (47 :: r) + 1 else 0 := rfl
  rw [h2, h3, if_neg (by rw [slash_no_space]; decide), if_pos ⟨rfl, rfl⟩]
theorem skip_none (c : UInt8) (r : List UInt8) (h : spcB (c.toNat : Int) = false) (h2 : ¬ (c = 47 ∧ r.head? = some 47)) : skipS false (c :: r) = 0 := by
  rw [skipS, if_neg (by rw [h]; decide), if_neg h2]
theorem runN_stop (p : Int → Bool) : ∀ (l : List UInt8) (c : UInt8) (r : List UInt8), l.drop (runN p l) = c :: r → p (c.toNat : Int) = false
  | [], c, r, h => by simp [runN] at h
  | d :: l, c, r, h => by
    cases hd : p (d.toNat : Int)
    · rw [runN_no _ _ _ hd, List.drop_zero] at h
      injection h with h _
      rw [← h]; exact hd
    · rw [runN_yes _ _ _ hd, List.drop_succ_cons] at h
      exact runN_stop p l c r h

/-! The signs. -/
theorem signs_ne : ∀ g ∈ signs, 0 < g.length := by decide
theorem signAt_mem {r g : List UInt8} (h : signAt r = some g) : g ∈ signs := List.mem_of_find?_eq_some h
theorem signAt_pos {r g : List UInt8} (h : signAt r = some g) : 0 < g.length := signs_ne g (signAt_mem h)
theorem signAt_pre {r g : List UInt8} (h : signAt r = some g) : g.isPrefixOf r = true := by
  have := List.find?_some h
  simpa using this
theorem signAt_le {r g : List UInt8} (h : signAt r = some g) : g.length ≤ r.length := by
  have := signAt_pre h
  rw [List.isPrefixOf_iff_prefix] at this
  exact this.length_le

theorem one_len {r : List UInt8} {kind : Nat} {text : List UInt8} {num m : Nat} (h : one r = some (kind, text, num, m)) : 0 < m ∧ m ≤ r.length := by
  unfold one at h
  split at h
  · cases h
  · rename_i c r'
    split at h
    · rename_i hc
      have hl := runN_le alnB (c :: r')
      have h0 : 0 < runN alnB (c :: r') := by rw [runN_yes _ _ _ (by simp [alnB, hc])]; omega
      split at h
      · simp only [Option.some.injEq, Prod.mk.injEq] at h; omega
      · split at h
        · simp only [Option.some.injEq, Prod.mk.injEq] at h; omega
        · cases h
    · split at h
      · rename_i hc
        have hl := runN_le digB (c :: r')
        have h0 : 0 < runN digB (c :: r') := by rw [runN_yes _ _ _ hc]; omega
        split at h
        · cases h
        · simp only [Option.some.injEq, Prod.mk.injEq] at h; omega
      · split at h
        · cases h
        · rename_i g hg
          simp only [Option.some.injEq, Prod.mk.injEq] at h
          have := signAt_pos hg
          have := signAt_le hg
          omega

/-! The state of the scan: what has been read, and what is still to come. -/
def Come (l : List UInt8) (ts : List Tk) (k : Nat) : Prop := ∃ f, l.length - k < f ∧ pre ts (lexF f k (l.drop k)) = lexAll l

theorem come_start (l : List UInt8) : Come l [] (skipS false l) := by
  refine ⟨l.length + 1, by omega, ?_⟩
  unfold lexAll
  cases lexF (l.length + 1) (skipS false l) (l.drop (skipS false l)) <;> rfl
theorem come_end {l : List UInt8} {ts : List Tk} {k : Nat} (h : Come l ts k) (hk : l.length ≤ k) : lexAll l = .ok ts := by
  obtain ⟨f, hf, h⟩ := h
  obtain ⟨f, rfl⟩ : ∃ g, f = g + 1 := ⟨f - 1, by omega⟩
  rw [List.drop_eq_nil_of_le hk] at h
  rw [← h]
  simp [lexF, pre]
theorem come_fault {l : List UInt8} {ts : List Tk} {k : Nat} (h : Come l ts k) (hk : k < l.length) (h1 : one (l.drop k) = none) : lexAll l = .error k := by
  obtain ⟨f, hf, h⟩ := h
  obtain ⟨f, rfl⟩ : ∃ g, f = g + 1 := ⟨f - 1, by omega⟩
  rw [List.drop_eq_getElem_cons hk] at h h1
  rw [← h, lexF, h1]
  rfl
theorem come_next {l : List UInt8} {ts : List Tk} {k : Nat} (h : Come l ts k) (hk : k < l.length) {kind : Nat} {text : List UInt8} {num m : Nat} (h1 : one (l.drop k) = some (kind, text, num, m)) :
    Come l (ts ++ [⟨kind, text, num, k⟩]) (k + m + skipS false (l.drop (k + m))) := by
  obtain ⟨f, hf, h⟩ := h
  obtain ⟨f, rfl⟩ : ∃ g, f = g + 1 := ⟨f - 1, by omega⟩
  have hm := one_len h1
  refine ⟨f, by omega, ?_⟩
  rw [← h]
  rw [List.drop_eq_getElem_cons hk] at h1 ⊢
  rw [lexF, h1]
  simp only []
  rw [← List.drop_eq_getElem_cons hk, List.drop_drop, List.drop_drop]
  rw [show k + (m + skipS false (l.drop (k + m))) = k + m + skipS false (l.drop (k + m)) from by omega]
  cases lexF f (k + m + skipS false (l.drop (k + m))) (l.drop (k + m + skipS false (l.drop (k + m)))) <;> simp [pre]

theorem lexF_len : ∀ (f k : Nat) (r : List UInt8) (ts : List Tk), lexF f k r = .ok ts → ts.length ≤ r.length
  | 0, _, _, _, h => by simp [lexF] at h
  | f + 1, k, [], ts, h => by
    simp only [lexF] at h
    injection h with h
    rw [← h]; simp
  | f + 1, k, c :: r, ts, h => by
    rw [lexF] at h
    split at h
    · cases h
    · rename_i kind text num m h1
      have hm := one_len h1
      split at h
      · cases h
      · rename_i us hu
        have := lexF_len f _ _ us hu
        injection h with h
        rw [← h]
        rw [List.length_drop] at this
        simp only [List.length_cons] at this hm ⊢
        omega
theorem toks_len (l : List UInt8) : (toks l).1.length ≤ 6001 := by
  unfold toks
  by_cases h : 6000 < l.length
  · rw [if_pos h]; simp
  · rw [if_neg h]
    cases h2 : lexAll l with
    | error k => simp
    | ok ts =>
      have := lexF_len _ _ _ ts h2
      rw [List.length_drop] at this
      simp only [List.length_append, List.length_singleton]
      omega
end Lx
end Go.Proofs.YtnadaedibicaaaaDoor.Ln

namespace Go.Proofs.YtnadaedibicaaaaDoor.Ln
open Go.RowKit

def bs (l : List UInt8) : ByteArray := ⟨l.toArray⟩
theorem bs_list (l : List UInt8) : (bs l).data.toList = l := rfl
theorem bs_size (l : List UInt8) : (bs l).size = l.length := rfl
theorem bs_of (s : ByteArray) : bs s.data.toList = s := rfl

theorem ret_bool {a b : Bool} (h : a = b) : Ending.returned (.bool a) = .returned (.bool b) := by rw [h]
theorem ret_int {k : IntKind} {a b : Int} (h : a = b) : Ending.returned (.int k a) = .returned (.int k b) := by rw [h]

set_option maxRecDepth 8000 in
set_option maxHeartbeats 400000 in
theorem refLetter_any (c : Int) (w : World) : Calls Tryd.prog 31 #[.int .u8 c] w fun e w' => e = .returned (.bool (Lx.letB c)) ∧ w = w' := by
  go_enter Tryd.func31, Tryd.ntmps31
  go_wp2
  all_goals
    go_ret
    refine ⟨ret_bool ?_, rfl⟩
    rw [Bool.eq_iff_iff]
    simp [Lx.letB]
    try omega
set_option maxRecDepth 8000 in
set_option maxHeartbeats 400000 in
theorem refDigit_any (c : Int) (w : World) : Calls Tryd.prog 35 #[.int .u8 c] w fun e w' => e = .returned (.bool (Lx.digB c)) ∧ w = w' := by
  go_enter Tryd.func35, Tryd.ntmps35
  go_wp2
  all_goals
    go_ret
    refine ⟨ret_bool ?_, rfl⟩
    rw [Bool.eq_iff_iff]
    simp [Lx.digB]
    try omega
/-- A function of the program that answers whether a byte belongs. -/
structure Belongs (F : FuncId) (p : Int → Bool) : Prop where
  enter : ∀ (args : Array Value) (w : World), (callFunc F args).run Tryd.prog w = .ok (.enter F args) w
  ans : ∀ (c : Int) (w : World), Calls Tryd.prog F #[.int .u8 c] w fun e w' => e = .returned (.bool (p c)) ∧ w = w'
theorem drop_at (s : ByteArray) (j : Nat) (h : j < s.size) : s.data.toList.drop j = s[j] :: s.data.toList.drop (j + 1) := List.drop_eq_getElem_cons (by simpa using h)
theorem run_at (s : ByteArray) (p : Int → Bool) (j : Nat) (h : j < s.size) : Lx.runN p (s.data.toList.drop j) = if p (s[j].toNat : Int) then Lx.runN p (s.data.toList.drop (j + 1)) + 1 else 0 := by
  rw [drop_at s j h, Lx.runN]
theorem drop_out (s : ByteArray) (j : Nat) (h : s.size ≤ j) : s.data.toList.drop j = [] := List.drop_eq_nil_of_le (by simpa using h)
theorem len_of (s : ByteArray) : s.data.toList.length = s.size := by simp

end Go.Proofs.YtnadaedibicaaaaDoor.Ln

namespace Go.Proofs.YtnadaedibicaaaaDoor.Ln
open Go.RowKit

theorem isWord_def (l : List UInt8) : Lx.isWord l = (l == [114, 101, 99, 111, 114, 100] || (l == [103, 108, 111, 98, 97, 108] || (l == [102, 117, 110, 99] || (l == [118, 97, 114] || (l == [108, 101, 116] || (l == [105, 102] || (l == [101, 108, 115, 101] || (l == [119, 104, 105, 108, 101] || (l == [114, 101, 116, 117, 114, 110] || (l == [112, 114, 105, 110, 116] || (l == [110, 117, 108, 108] || (l == [110, 101, 119] || (l == [108, 101, 110] || (l == [114, 101, 97, 100] || (l == [116, 114, 117, 101] || (l == [102, 97, 108, 115, 101] || (l == [105, 110, 116] || (l == [98, 111, 111, 108] || false)))))))))))))))))) := rfl

set_option maxRecDepth 8000 in
set_option maxHeartbeats 1000000 in
theorem words_made (w : World) : Calls Tryd.prog 56 #[] w fun e w' => e = .returned (.slice (some ⟨w.heap.size, 0, none⟩) 18 18) ∧ w' = w.alloc (.cells (Lx.words.map fun l => .string (bs l)).toArray 9) := by
  go_enter Tryd.func56, Tryd.ntmps56
  go_wp2
  go_ret
  exact ⟨rfl, rfl⟩
def HasWords (B : Nat) (w : World) : Prop := ∀ j g, Lx.words[j]? = some g → w.cell? ⟨B, j, none⟩ = some (.string (bs g))
theorem words_any (w : World) : Calls Tryd.prog 56 #[] w fun e w' => e = .returned (.slice (some ⟨w.heap.size, 0, none⟩) 18 18) ∧ HasWords w.heap.size w' ∧ Below w.heap.size w w' :=
  (words_made w).mono fun _ _ ⟨he, hw⟩ => ⟨he, fun j g hg => by
    rw [hw, cell_of_row _ _ j _ _ _ (heap_alloc_new w _)]
    simp [hg], hw ▸ (Below.refl _ _).alloc (Nat.le_refl _) _⟩

theorem words_len : Lx.words.length = 18 := by decide
set_option maxRecDepth 8000 in
set_option maxHeartbeats 1000000 in
theorem refWord_any (s : ByteArray) (w : World) : Calls Tryd.prog 33 #[.string s] w fun e w' => e = .returned (.bool (Lx.isWord s.data.toList)) ∧ Below w.heap.size w w' := by
  have hlen := words_len
  have HL := Lib.hid hlen
  clear hlen
  go_enter Tryd.func33, Tryd.ntmps33
  go_wp2_with (go_at_call 56; refine (words_any _).mono ?_; rintro e w1 ⟨rfl, hw1, hb⟩)
  have HW := Lib.hid hw1
  clear hw1
  go_loop [4] (fun i => ∃ j : Nat, j ≤ 18 ∧ i = .int .i64 j ∧ ∀ g ∈ Lx.words.take j, g ≠ s.data.toList) (fun i => 18 - (intOf i).toNat)
  case atStart => exact ⟨0, by omega, rfl, by simp⟩
  case round =>
    obtain ⟨j, hj, rfl, hno⟩ := hrel
    have HN := Lib.hid hno
    clear hno
    by_cases hlt : j < 18
    · obtain ⟨g, hg⟩ : ∃ g, Lx.words[j]? = some g := ⟨_, List.getElem?_eq_getElem (by rw [HL.out]; exact hlt)⟩
      have hc := HW.out j g hg
      have HG := Lib.hid hg
      clear hg
      by_cases he : g = s.data.toList
      · have hx : ((bs g).toList == s.toList) = true := by rw [Lib.toList_data, Lib.toList_data, bs_list]; exact beq_iff_eq.2 he
        have HE := Lib.hid he
        clear he
        go_wp2
        go_ret
        refine ⟨ret_bool ?_, hb⟩
        rw [Lx.isWord, List.contains_iff_mem.2 (by rw [← HE.out]; exact List.mem_of_getElem? HG.out)]
      · have hx : ((bs g).toList == s.toList) = false := by rw [Lib.toList_data, Lib.toList_data, bs_list]; exact beq_eq_false_iff_ne.2 he
        have HE := Lib.hid he
        clear he
        go_wp2
        go_round
        case rel =>
          refine ⟨j + 1, by omega, by go_num, ?_⟩
          intro g' hg'
          rw [List.take_add_one, HG.out] at hg'
          simp only [Option.toList, List.mem_append, List.mem_singleton] at hg'
          rcases hg' with hg' | rfl
          · exact HN.out g' hg'
          · exact HE.out
        case measure => simp [intOf]; omega
    · go_wp2
      go_ret
      refine ⟨ret_bool ?_, hb⟩
      have hn := HN.out
      rw [List.take_of_length_le (by rw [HL.out]; omega)] at hn
      rw [Lx.isWord]
      symm
      rw [← Bool.not_eq_true, List.contains_iff_mem]
      exact fun h => hn _ h rfl
end Go.Proofs.YtnadaedibicaaaaDoor.Ln

namespace Go.Proofs.YtnadaedibicaaaaDoor.Ln
open Go.RowKit

theorem run_bound (p : Int → Bool) (s : ByteArray) (k : Nat) (hk : k ≤ s.size) : k + Lx.runN p (s.data.toList.drop k) ≤ s.size := by
  have := Lx.runN_le p (s.data.toList.drop k)
  rw [List.length_drop, len_of] at this
  omega

theorem tail_list (s : ByteArray) (k : Nat) : (s.extract k s.size).data.toList = s.data.toList.drop k := by
  rw [Lib.extract_data]
  rw [List.take_of_length_le (by simp)]

/-- Two slashes stand in front. -/
def slashes (l : List UInt8) : Bool := [47, 47].isPrefixOf l
theorem slashes_yes {l : List UInt8} (h : slashes l = true) : ∃ r, l = 47 :: 47 :: r := by
  match l with
  | [] => simp [slashes, List.isPrefixOf] at h
  | [a] => simp [slashes, List.isPrefixOf] at h
  | a :: b :: r => simp [slashes, List.isPrefixOf] at h; exact ⟨r, by rw [← h.1, ← h.2]⟩
theorem slashes_skip {l : List UInt8} (h : slashes l = true) : Lx.skipS false l = Lx.runN Lx.linB l + Lx.skipS false (l.drop (Lx.runN Lx.linB l)) := by
  obtain ⟨r, rfl⟩ := slashes_yes h
  rw [Lx.skip_slash, Lx.skip_line]
theorem slashes_run {l : List UInt8} (h : slashes l = true) : 2 ≤ Lx.runN Lx.linB l := by
  obtain ⟨r, rfl⟩ := slashes_yes h
  have : Lx.linB ((47 : UInt8).toNat : Int) = true := by decide
  rw [Lx.runN_yes _ _ _ this, Lx.runN_yes _ _ _ this]
  omega
theorem slashes_no {l : List UInt8} (h : slashes l = false) (h2 : ∀ c r, l = c :: r → Lx.spcB (c.toNat : Int) = false) : Lx.skipS false l = 0 := by
  match l with
  | [] => rfl
  | c :: r =>
    refine Lx.skip_none c r (h2 c r rfl) fun ⟨hc, hr⟩ => ?_
    match r, hr with
    | d :: r, hr =>
      simp at hr
      rw [hc, hr] at h
      simp [slashes, List.isPrefixOf] at h

theorem skip_slash_line {l : List UInt8} (h : slashes l = true) : Lx.skipS false l = Lx.skipS true l := by
  obtain ⟨r, rfl⟩ := slashes_yes h
  exact Lx.skip_slash r
theorem space_skip {s : ByteArray} {j m : Nat} (hlt : j < s.size) (hsp : Lx.spcB (s[j].toNat : Int) = true) (h : j + Lx.skipS false (s.data.toList.drop j) = m) : j + 1 + Lx.skipS false (s.data.toList.drop (j + 1)) = m := by
  rw [drop_at s j hlt, Lx.skipS, if_pos hsp] at h
  omega

/-- The comment's loop: what is left to skip. -/
theorem line_skip {s : ByteArray} {j m : Nat} (hlt : j < s.size) (hln : Lx.linB (s[j].toNat : Int) = true) (h : j + Lx.skipS true (s.data.toList.drop j) = m) : j + 1 + Lx.skipS true (s.data.toList.drop (j + 1)) = m := by
  rw [drop_at s j hlt] at h
  rw [show Lx.skipS true (s[j] :: s.data.toList.drop (j + 1)) = Lx.skipS (Lx.linB (s[j].toNat : Int)) (s.data.toList.drop (j + 1)) + 1 from rfl, hln] at h
  omega
theorem line_done {s : ByteArray} {j m : Nat} (h : j + Lx.skipS true (s.data.toList.drop j) = m) (hd : j = s.size ∨ ∃ hlt : j < s.size, Lx.linB (s[j].toNat : Int) = false) : j + Lx.skipS false (s.data.toList.drop j) = m := by
  rw [Lx.skip_line] at h
  rcases hd with rfl | ⟨hlt, hl⟩
  · rw [drop_out s _ (Nat.le_refl _)] at h ⊢
    exact h
  · rw [run_at s _ j hlt, hl] at h
    simpa using h

theorem spc_false {c : Int} (h : Lx.spcB c = false) : c ≠ 32 ∧ c ≠ 9 ∧ c ≠ 10 ∧ c ≠ 13 := by
  simpa [Lx.spcB] using h
theorem beqF {a b : Int} (h : a ≠ b) : (a == b) = false := beq_eq_false_iff_ne.2 h

theorem two_at (s : ByteArray) (j : Nat) (h : j + 2 ≤ s.size) : ((s.extract j (j + 2)).toList == [47, 47]) = slashes (s.data.toList.drop j) := by
  rw [Lib.toList_data, Lib.extract_data]
  rw [drop_at s j (by omega), drop_at s (j + 1) (by omega)]
  rw [Bool.eq_iff_iff]
  simp [slashes, List.isPrefixOf]
  exact ⟨fun ⟨a, b⟩ => ⟨a.symm, b.symm⟩, fun ⟨a, b⟩ => ⟨a.symm, b.symm⟩⟩
theorem lin_false {c : Int} (h : Lx.linB c = false) : (c != 10) = false := by simpa [Lx.linB] using h
theorem lin_true {c : Int} (h : Lx.linB c = true) : (c != 10) = true := by simpa [Lx.linB] using h
theorem lin_ten {c : Int} (h : (c == 10) = false) : Lx.linB c = true := by simpa [Lx.linB] using h

set_option maxRecDepth 8000 in
set_option maxHeartbeats 1000000 in
theorem refBlank_any (s : ByteArray) (hs : s.size ≤ maxLen) (a : Int) (k m : Nat) (ha : a = k) (hk : k ≤ s.size) (hm : k + Lx.skipS false (s.data.toList.drop k) = m) (w : World) :
    Calls Tryd.prog 17 #[.string s, .int .i64 a] w fun e w' => e = .returned (.int .i64 m) ∧ w = w' := by
  subst ha
  unfold maxLen at hs
  have HM := Lib.hid hm
  clear hm
  go_enter Tryd.func17, Tryd.ntmps17
  go_wp2
  go_loop [1] (fun i => ∃ j : Nat, j ≤ s.size ∧ i = .int .i64 j ∧ j + Lx.skipS false (s.data.toList.drop j) = m) (fun i => s.size - (intOf i).toNat)
  case atStart => exact ⟨k, hk, rfl, HM.out⟩
  case round =>
    obtain ⟨j, hj, rfl, hJ⟩ := hrel
    have HJ := Lib.hid hJ
    clear hJ
    by_cases hlt : j < s.size
    · cases hsp : Lx.spcB (s[j].toNat : Int)
      · have HP := Lib.hid hsp
        have hc := spc_false hsp
        have c1 := beqF hc.1
        have c2 := beqF hc.2.1
        have c3 := beqF hc.2.2.1
        have c4 := beqF hc.2.2.2
        clear hsp hc
        by_cases h2 : j + 2 ≤ s.size
        · have h2' : (2 : Int) ≤ (s.size : Int) - (j : Int) := by omega
          have h3 : (j : Int) + 2 ≤ (s.size : Int) := by omega
          have h4 := two_at s j h2
          cases hsl : slashes (s.data.toList.drop j)
          · rw [hsl] at h4
            have HNO := Lib.hid hsl
            clear hsl
            go_wp2
            go_ret
            have h := HJ.out
            rw [slashes_no HNO.out (fun c r e => by rw [drop_at s j hlt] at e; injection e with e _; rw [← e]; exact HP.out)] at h
            exact ⟨ret_int (by omega), rfl⟩
          · rw [hsl] at h4
            have hJ5 := HJ.out
            rw [skip_slash_line hsl] at hJ5
            have HJ5 := Lib.hid hJ5
            clear hsl hJ5
            go_wp2
            go_loop [1] (fun i => ∃ q : Nat, j ≤ q ∧ q ≤ s.size ∧ i = .int .i64 q ∧ q + Lx.skipS true (s.data.toList.drop q) = m) (fun i => s.size - (intOf i).toNat)
            case atStart => exact ⟨j, Nat.le_refl _, hj, rfl, HJ5.out⟩
            case round =>
              obtain ⟨q, hq1, hq2, rfl, hQ⟩ := hrel
              have HQ := Lib.hid hQ
              clear hQ
              by_cases hqs : q < s.size
              · cases hln : Lx.linB (s[q].toNat : Int)
                · have hl := lin_false hln
                  have hne : j < q := by
                    rcases Nat.lt_or_eq_of_le hq1 with h | rfl
                    · exact h
                    · rw [lin_ten c3] at hln; cases hln
                  have HL := Lib.hid hln
                  clear hln
                  go_wp2
                  go_round
                  case rel => exact ⟨q, hq2, rfl, line_done HQ.out (Or.inr ⟨hqs, HL.out⟩)⟩
                  case measure => simp [intOf]; omega
                · have hl := lin_true hln
                  have HL := Lib.hid hln
                  clear hln
                  go_wp2
                  go_round
                  case rel => exact ⟨q + 1, by omega, by omega, by go_num, line_skip hqs HL.out HQ.out⟩
                  case measure => simp [intOf]; omega
              · have he : q = s.size := by omega
                have HE := Lib.hid he
                clear he
                go_wp2
                go_round
                case rel => exact ⟨q, hq2, rfl, line_done HQ.out (Or.inl HE.out)⟩
                case measure => simp [intOf]; omega
        · have hno : slashes (s.data.toList.drop j) = false := by
            cases h : slashes (s.data.toList.drop j)
            · rfl
            · obtain ⟨r, hr⟩ := slashes_yes h
              have := congrArg List.length hr
              rw [List.length_drop, len_of] at this
              simp at this
              omega
          have HNO := Lib.hid hno
          clear hno
          go_wp2
          go_ret
          have h := HJ.out
          rw [slashes_no HNO.out (fun c r e => by rw [drop_at s j hlt] at e; injection e with e _; rw [← e]; exact HP.out)] at h
          exact ⟨ret_int (by omega), rfl⟩
      · have HP := Lib.hid hsp
        have hor : s[j].toNat = 32 ∨ s[j].toNat = 9 ∨ s[j].toNat = 10 ∨ s[j].toNat = 13 := by
          have := hsp
          simp [Lx.spcB] at this
          omega
        clear hsp
        rcases hor with h | h | h | h
        · have c1 : ((s[j].toNat : Int) == 32) = true := beq_iff_eq.2 (by omega)
          clear h
          go_wp2
          go_round
          case rel => exact ⟨j + 1, by omega, by go_num, space_skip hlt HP.out HJ.out⟩
          case measure => simp [intOf]; omega
        · have c1 : ((s[j].toNat : Int) == 32) = false := beqF (by omega)
          have c2 : ((s[j].toNat : Int) == 9) = true := beq_iff_eq.2 (by omega)
          clear h
          go_wp2
          go_round
          case rel => exact ⟨j + 1, by omega, by go_num, space_skip hlt HP.out HJ.out⟩
          case measure => simp [intOf]; omega
        · have c1 : ((s[j].toNat : Int) == 32) = false := beqF (by omega)
          have c2 : ((s[j].toNat : Int) == 9) = false := beqF (by omega)
          have c3 : ((s[j].toNat : Int) == 10) = true := beq_iff_eq.2 (by omega)
          clear h
          go_wp2
          go_round
          case rel => exact ⟨j + 1, by omega, by go_num, space_skip hlt HP.out HJ.out⟩
          case measure => simp [intOf]; omega
        · have c1 : ((s[j].toNat : Int) == 32) = false := beqF (by omega)
          have c2 : ((s[j].toNat : Int) == 9) = false := beqF (by omega)
          have c3 : ((s[j].toNat : Int) == 10) = false := beqF (by omega)
          have c4 : ((s[j].toNat : Int) == 13) = true := beq_iff_eq.2 (by omega)
          clear h
          go_wp2
          go_round
          case rel => exact ⟨j + 1, by omega, by go_num, space_skip hlt HP.out HJ.out⟩
          case measure => simp [intOf]; omega
    · go_wp2
      go_ret
      have h := HJ.out
      rw [drop_out s j (by omega)] at h
      exact ⟨ret_int (by simp [Lx.skipS] at h; omega), rfl⟩
end Go.Proofs.YtnadaedibicaaaaDoor.Ln

namespace Go.Proofs.YtnadaedibicaaaaDoor.Ln
open Go.RowKit

theorem isName_nil : Lx.isName [] = false := rfl
theorem isName_at (s : ByteArray) (h : 0 < s.size) : Lx.isName s.data.toList = (decide (s.size ≤ 8) && Lx.letB (s[0].toNat : Int) && decide (Lx.runN Lx.alnB s.data.toList = s.size) && !Lx.isWord s.data.toList) := by
  have hd := drop_at s 0 h
  rw [List.drop_zero] at hd
  have hl := len_of s
  generalize s[0] = c at hd ⊢
  generalize s.data.toList = l at hd hl ⊢
  obtain ⟨r, rfl⟩ : ∃ r, l = c :: r := ⟨_, hd⟩
  rw [← hl]
  rfl
theorem ne_list (s : ByteArray) (h : 0 < s.size) : s.toList ≠ [] := by
  rw [Lib.toList_data]
  intro h2
  have := congrArg List.length h2
  rw [len_of] at this
  have h3 : s.size = 0 := this
  omega
theorem ne_beq (s : ByteArray) (h : 0 < s.size) : (s.toList == []) = false := beq_eq_false_iff_ne.2 (ne_list s h)
theorem ne_empty (s : ByteArray) (h : 0 < s.size) : s.toList.isEmpty = false := by
  cases h2 : s.toList.isEmpty
  · rfl
  · exact absurd (List.isEmpty_iff.1 h2) (ne_list s h)
theorem empty_of (s : ByteArray) (h : s.size = 0) : s = ⟨#[]⟩ := by
  apply ByteArray.ext
  exact Array.eq_empty_of_size_eq_zero h

/-- The loop over a name's bytes. -/
theorem aln_step {s : ByteArray} {j m : Nat} (hlt : j < s.size) (ha : Lx.alnB (s[j].toNat : Int) = true) (h : j + Lx.runN Lx.alnB (s.data.toList.drop j) = m) : j + 1 + Lx.runN Lx.alnB (s.data.toList.drop (j + 1)) = m := by
  rw [run_at s _ j hlt, if_pos ha] at h
  omega
theorem aln_stop {s : ByteArray} {j m : Nat} (hlt : j < s.size) (ha : Lx.alnB (s[j].toNat : Int) = false) (h : j + Lx.runN Lx.alnB (s.data.toList.drop j) = m) : m = j := by
  rw [run_at s _ j hlt, if_neg (by rw [ha]; decide)] at h
  omega

set_option maxRecDepth 8000 in
set_option maxHeartbeats 1000000 in
theorem refName_any (s : ByteArray) (hs : s.size ≤ maxLen) (w : World) : Calls Tryd.prog 34 #[.string s] w fun e w' => e = .returned (.bool (Lx.isName s.data.toList)) ∧ Below w.heap.size w w' := by
  rcases Nat.eq_zero_or_pos s.size with h0 | h0
  · have := empty_of s h0
    subst this
    clear h0
    go_enter Tryd.func34, Tryd.ntmps34
    go_wp2
    go_ret
    exact ⟨rfl, Below.refl _ _⟩
  · have hN := isName_at s h0
    by_cases h8 : s.size ≤ 8
    · have hi : (0 : Int) < (s.size : Int) := by omega
      have h1 : 1 ≤ s.size := h0
      cases hc : Lx.letB (s[0].toNat : Int)
      · have hl := refLetter_any (s[0].toNat : Int)
        rw [hc] at hl hN
        have hN2 : Lx.isName s.data.toList = false := by rw [hN]; simp
        have HL := Lib.hid hl
        rw [hN2]
        clear hl hN hN2 hc
        go_enter Tryd.func34, Tryd.ntmps34
        go_wp2_with (go_at_call 31; refine (HL.out _).mono ?_; rintro e w' ⟨rfl, rfl⟩)
        go_ret
        exact ⟨rfl, Below.refl _ _⟩
      · have hl := refLetter_any (s[0].toNat : Int)
        rw [hc] at hl hN
        have HL := Lib.hid hl
        have hw := refWord_any s
        cases hwd : Lx.isWord s.data.toList
        · rw [hwd] at hw hN
          have HW := Lib.hid hw
          have hb := run_bound Lx.alnB s 0 (by omega)
          generalize hm : 0 + Lx.runN Lx.alnB (s.data.toList.drop 0) = m at hb
          have hm2 : Lx.runN Lx.alnB s.data.toList = m := by rw [← hm]; simp
          rw [hm2] at hN
          have HM := Lib.hid hm
          have hN2 : Lx.isName s.data.toList = decide (m = s.size) := by rw [hN]; simp [h8]
          rw [hN2]
          clear hl hN hN2 hc hm hm2 hw hwd
          go_enter Tryd.func34, Tryd.ntmps34
          go_wp2_with (first
            | (go_at_call 31; refine (HL.out _).mono ?_; rintro e w' ⟨rfl, rfl⟩)
            | (go_at_call 33; refine (HW.out _).mono ?_; rintro e w1 ⟨rfl, hb1⟩))
          go_loop [3] (fun i => ∃ j : Nat, j ≤ s.size ∧ i = .int .i64 j ∧ j + Lx.runN Lx.alnB (s.data.toList.drop j) = m) (fun i => s.size - (intOf i).toNat)
          case atStart => exact ⟨0, by omega, rfl, HM.out⟩
          case round =>
            obtain ⟨j, hj, rfl, hJ⟩ := hrel
            have HJ := Lib.hid hJ
            clear hJ
            by_cases hlt : j < s.size
            · have hl := refLetter_any (s[j].toNat : Int)
              have hd := refDigit_any (s[j].toNat : Int)
              cases hcl : Lx.letB (s[j].toNat : Int)
              · rw [hcl] at hl
                cases hcd : Lx.digB (s[j].toNat : Int)
                · rw [hcd] at hd
                  have HA : Hid (Lx.alnB (s[j].toNat : Int) = false) := by show _ = _; simp [Lx.alnB, hcl, hcd]
                  have HL := Lib.hid hl
                  have HD := Lib.hid hd
                  clear hl hd hcl hcd
                  go_wp2_with (first
                    | (go_at_call 31; refine (HL.out _).mono ?_; rintro e w' ⟨rfl, rfl⟩)
                    | (go_at_call 35; refine (HD.out _).mono ?_; rintro e w' ⟨rfl, rfl⟩))
                  go_ret
                  refine ⟨ret_bool ?_, hb1⟩
                  have := aln_stop hlt HA.out HJ.out
                  exact (decide_eq_false (by omega)).symm
                · rw [hcd] at hd
                  have HA : Hid (Lx.alnB (s[j].toNat : Int) = true) := by show _ = _; simp [Lx.alnB, hcd]
                  have HL := Lib.hid hl
                  have HD := Lib.hid hd
                  clear hl hd hcl hcd
                  go_wp2_with (first
                    | (go_at_call 31; refine (HL.out _).mono ?_; rintro e w' ⟨rfl, rfl⟩)
                    | (go_at_call 35; refine (HD.out _).mono ?_; rintro e w' ⟨rfl, rfl⟩))
                  go_round
                  case rel => exact ⟨j + 1, by omega, by go_num, aln_step hlt HA.out HJ.out⟩
                  case measure => simp [intOf]; omega
              · rw [hcl] at hl
                have HA : Hid (Lx.alnB (s[j].toNat : Int) = true) := by show _ = _; simp [Lx.alnB, hcl]
                have HL := Lib.hid hl
                clear hl hd hcl
                go_wp2_with (go_at_call 31; refine (HL.out _).mono ?_; rintro e w' ⟨rfl, rfl⟩)
                go_round
                case rel => exact ⟨j + 1, by omega, by go_num, aln_step hlt HA.out HJ.out⟩
                case measure => simp [intOf]; omega
            · go_wp2
              go_ret
              refine ⟨ret_bool ?_, hb1⟩
              have h := HJ.out
              rw [drop_out s j (by omega), Lx.runN] at h
              exact (decide_eq_true (by omega)).symm
        · rw [hwd] at hw hN
          have HW := Lib.hid hw
          have hN2 : Lx.isName s.data.toList = false := by rw [hN]; simp
          rw [hN2]
          clear hl hN hN2 hc hw hwd
          go_enter Tryd.func34, Tryd.ntmps34
          go_wp2_with (first
            | (go_at_call 31; refine (HL.out _).mono ?_; rintro e w' ⟨rfl, rfl⟩)
            | (go_at_call 33; refine (HW.out _).mono ?_; rintro e w1 ⟨rfl, hb1⟩))
          go_ret
          exact ⟨rfl, hb1⟩
    · have hN2 : Lx.isName s.data.toList = false := by rw [hN]; simp [h8]
      rw [hN2]
      have h9 : 8 < s.size := by omega
      have h1 : 1 ≤ s.size := h0
      clear hN hN2 h8
      go_enter Tryd.func34, Tryd.ntmps34
      go_wp2
      go_ret
      exact ⟨rfl, Below.refl _ _⟩
end Go.Proofs.YtnadaedibicaaaaDoor.Ln

namespace Go.Proofs.YtnadaedibicaaaaDoor.Ln
namespace Lx
open Go.Lib

theorem runN_all (p : Int → Bool) : ∀ l : List UInt8, ∀ c ∈ l.take (runN p l), p (c.toNat : Int) = true
  | [], c, h => by simp at h
  | d :: l, c, h => by
    cases hd : p (d.toNat : Int)
    · rw [runN_no _ _ _ hd] at h; simp at h
    · rw [runN_yes _ _ _ hd, List.take_succ_cons, List.mem_cons] at h
      rcases h with rfl | h
      · exact hd
      · exact runN_all p l c h

theorem dig_bounds {c : UInt8} (h : digB (c.toNat : Int) = true) : 48 ≤ c.toNat ∧ c.toNat ≤ 57 := by
  simp [digB] at h; omega

theorem parse_cons (acc : Nat) (c : UInt8) (l : List UInt8) (hc : 48 ≤ c.toNat ∧ c.toNat ≤ 57) : parseUint10 acc (c :: l) =
      if 1844674407370955162 ≤ acc then .range
      else if 18446744073709551616 ≤ acc * 10 + (c.toNat - 48) then .range
      else parseUint10 (acc * 10 + (c.toNat - 48)) l := by rw [parseUint10, if_pos hc]
theorem parse_nil (acc : Nat) : parseUint10 acc [] = .ok acc := by rw [parseUint10]
theorem parse_digits : ∀ (l : List UInt8) (acc : Nat), (∀ c ∈ l, digB (c.toNat : Int) = true) → acc < 18446744073709551616 →
    parseUint10 acc l = if valN acc l < 18446744073709551616 then .ok (valN acc l) else .range
  | [], acc, _, ha => by rw [parse_nil, valN_nil, if_pos ha]
  | c :: l, acc, hl, ha => by
    have hc := dig_bounds (hl c List.mem_cons_self)
    have hg := valN_ge l (10 * acc + (c.toNat - 48))
    rw [parse_cons acc c l hc, valN_cons]
    rw [show acc * 10 + (c.toNat - 48) = 10 * acc + (c.toNat - 48) from by omega]
    by_cases h1 : 1844674407370955162 ≤ acc
    · rw [if_pos h1, if_neg (by omega)]
    · rw [if_neg h1]
      by_cases h2 : 18446744073709551616 ≤ 10 * acc + (c.toNat - 48)
      · rw [if_pos h2, if_neg (by omega)]
      · rw [if_neg h2]
        exact parse_digits l _ (fun d hd => hl d (List.mem_cons_of_mem _ hd)) (by omega)

theorem atoi_digits (l : List UInt8) (hne : l ≠ []) (hl : ∀ c ∈ l, digB (c.toNat : Int) = true) :
    atoiAll l = if valN 0 l ≤ 9223372036854775807 then .ok (valN 0 l : Int) else .range := by
  match l, hne with
  | c :: r, _ =>
    have hc := dig_bounds (hl c List.mem_cons_self)
    rw [atoiAll_plain c r (by omega) (by omega), parseMag, if_neg (by simp), parse_digits _ 0 hl (by omega)]
    by_cases h1 : valN 0 (c :: r) < 18446744073709551616
    · rw [if_pos h1, signless]
      by_cases h2 : valN 0 (c :: r) ≤ 9223372036854775807
      · rw [if_neg (by omega), if_pos h2]
      · rw [if_pos (by omega), if_neg h2]
    · rw [if_neg h1, signless, if_neg (by omega)]
end Lx
open Go.RowKit

theorem ret_whole {v : Int} {b : Bool} {a : Int} {c : Bool} (h : a = v) (h2 : c = b) : Ending.returned (.tuple #[.int .i64 a, .bool c]) = .returned (.tuple #[.int .i64 v, .bool b]) := by rw [h, h2]

def wholeV (V : Nat) : Nat := if V ≤ 9223372036854775807 then V else 0
def wholeB (V : Nat) : Bool := decide (V ≤ 9223372036854775807)
theorem wholeV_yes {V : Nat} (h : V ≤ 9223372036854775807) : wholeV V = V := if_pos h
theorem wholeV_no {V : Nat} (h : ¬ V ≤ 9223372036854775807) : wholeV V = 0 := if_neg h
theorem wholeB_yes {V : Nat} (h : V ≤ 9223372036854775807) : wholeB V = true := decide_eq_true h
theorem wholeB_no {V : Nat} (h : ¬ V ≤ 9223372036854775807) : wholeB V = false := decide_eq_false h
set_option maxRecDepth 8000 in
set_option maxHeartbeats 1000000 in
theorem whole_any (s : ByteArray) (hs : s.size ≤ maxLen) (hd : ∀ c ∈ s.data.toList, Lx.digB (c.toNat : Int) = true) (V : Nat) (hV : Lx.valN 0 s.data.toList = V) (w : World) :
    Calls Tryd.prog 36 #[.string s] w fun e w' => e = .returned (.tuple #[.int .i64 (wholeV V), .bool (wholeB V)]) ∧ w = w' := by
  unfold maxLen at hs
  have HD := Lib.hid hd
  have HV := Lib.hid hV
  clear hd hV
  go_enter Tryd.func36, Tryd.ntmps36
  go_wp2
  go_loop [4, 5] (fun n i => ∃ j n' : Nat, j ≤ s.size ∧ i = .int .i64 j ∧ n = .int .i64 n' ∧ n' ≤ 9223372036854775807 ∧ Lx.valN n' (s.data.toList.drop j) = V) (fun _ i => s.size - (intOf i).toNat)
  case atStart => exact ⟨0, 0, by omega, rfl, rfl, by omega, HV.out⟩
  case round =>
    obtain ⟨j, n, hj, rfl, rfl, hn, hJ⟩ := hrel
    have HJ := Lib.hid hJ
    clear hJ
    by_cases hlt : j < s.size
    · have hb := Lx.dig_bounds (HD.out s[j] (by have h := drop_at s j hlt; exact List.mem_of_mem_drop (by rw [h]; exact List.mem_cons_self)))
      have h1 := hb.1
      have h2 := hb.2
      clear hb
      have hJ := HJ.out
      rw [drop_at s j hlt, Lx.valN_cons] at hJ
      have hg := Lx.valN_ge (s.data.toList.drop (j + 1)) (10 * n + (s[j].toNat - 48))
      rw [hJ] at hg
      have HJ2 := Lib.hid hJ
      clear hJ HJ
      by_cases hov : 9223372036854775807 < 10 * n + (s[j].toNat - 48)
      · have h3 : ((9223372036854775807 : Int) - ((s[j].toNat : Int) - 48)) / 10 < (n : Int) := by omega
        go_wp2
        go_ret2
        exact ⟨ret_whole (by rw [wholeV_no (by omega)]; rfl) (wholeB_no (by omega)).symm, rfl⟩
      · have h3 : (n : Int) ≤ ((9223372036854775807 : Int) - ((s[j].toNat : Int) - 48)) / 10 := by omega
        go_wp2
        go_round
        case rel => exact ⟨j + 1, 10 * n + (s[j].toNat - 48), by omega, by go_num, congrArg (Value.int .i64) (by omega), by omega, HJ2.out⟩
        case measure => simp [intOf]; omega
    · go_wp2
      go_ret2
      have h := HJ.out
      rw [drop_out s j (by omega), Lx.valN_nil] at h
      exact ⟨ret_whole (by rw [wholeV_yes (by omega), h]) (wholeB_yes (by omega)).symm, rfl⟩

theorem run_step {s : ByteArray} {p : Int → Bool} {k q m : Nat} (hlt : k + q < s.size) (ha : p (s[k + q].toNat : Int) = true) (h : q + Lx.runN p (s.data.toList.drop (k + q)) = m) : q + 1 + Lx.runN p (s.data.toList.drop (k + (q + 1))) = m := by
  rw [run_at s _ (k + q) hlt, if_pos ha] at h
  rw [show k + (q + 1) = k + q + 1 from rfl]
  omega
theorem run_stop {s : ByteArray} {p : Int → Bool} {k q m : Nat} (hlt : k + q < s.size) (ha : p (s[k + q].toNat : Int) = false) (h : q + Lx.runN p (s.data.toList.drop (k + q)) = m) : q = m := by
  rw [run_at s _ (k + q) hlt, if_neg (by rw [ha]; decide)] at h
  omega
theorem run_out {s : ByteArray} {p : Int → Bool} {k q m : Nat} (hlt : s.size ≤ k + q) (h : q + Lx.runN p (s.data.toList.drop (k + q)) = m) : q = m := by
  rw [drop_out s _ hlt, Lx.runN] at h
  omega

set_option maxRecDepth 8000 in
set_option maxHeartbeats 1000000 in
/-- run over digits alone. -/
theorem refRunD_any (s : ByteArray) (hs : s.size ≤ maxLen) (a : Int) (k m : Nat) (ha : a = k) (hk : k ≤ s.size) (hm : Lx.runN Lx.digB (s.data.toList.drop k) = m) (w : World) :
    Calls Tryd.prog 32 #[.string s, .int .i64 a, .bool true] w fun e w' => e = .returned (.int .i64 m) ∧ w = w' := by
  subst ha
  unfold maxLen at hs
  have HM := Lib.hid hm
  clear hm
  go_enter Tryd.func32, Tryd.ntmps32
  go_wp2
  go_loop [7] (fun i => ∃ q : Nat, k + q ≤ s.size ∧ i = .int .i64 q ∧ q + Lx.runN Lx.digB (s.data.toList.drop (k + q)) = m) (fun i => s.size - k - (intOf i).toNat)
  case atStart => exact ⟨0, hk, rfl, by rw [Nat.add_zero, HM.out]; omega⟩
  case round =>
    obtain ⟨q, hq, rfl, hJ⟩ := hrel
    have HJ := Lib.hid hJ
    clear hJ
    by_cases hlt : k + q < s.size
    · have hlt2 : (k : Int) + (q : Int) < (s.size : Int) := by omega
      have hd := refDigit_any (s[k + q].toNat : Int)
      cases hcd : Lx.digB (s[k + q].toNat : Int)
      · rw [hcd] at hd
        have HD := Lib.hid hd
        have HC := Lib.hid hcd
        clear hd hcd
        go_wp2_with (go_at_call 35; refine (HD.out _).mono ?_; rintro e w' ⟨rfl, rfl⟩)
        go_ret
        exact ⟨ret_int (by rw [run_stop hlt HC.out HJ.out]), rfl⟩
      · rw [hcd] at hd
        have HD := Lib.hid hd
        have HC := Lib.hid hcd
        clear hd hcd
        go_wp2_with (go_at_call 35; refine (HD.out _).mono ?_; rintro e w' ⟨rfl, rfl⟩)
        go_round
        case rel => exact ⟨q + 1, by omega, by go_num, run_step hlt HC.out HJ.out⟩
        case measure => simp [intOf]; omega
    · have hlt2 : (s.size : Int) ≤ (k : Int) + (q : Int) := by omega
      go_wp2
      go_ret
      exact ⟨ret_int (by rw [run_out (by omega) HJ.out]), rfl⟩

set_option maxRecDepth 8000 in
set_option maxHeartbeats 1000000 in
/-- run over letters and digits. -/
theorem refRunA_any (s : ByteArray) (hs : s.size ≤ maxLen) (a : Int) (k m : Nat) (ha : a = k) (hk : k ≤ s.size) (hm : Lx.runN Lx.alnB (s.data.toList.drop k) = m) (w : World) :
    Calls Tryd.prog 32 #[.string s, .int .i64 a, .bool false] w fun e w' => e = .returned (.int .i64 m) ∧ w = w' := by
  subst ha
  unfold maxLen at hs
  have HM := Lib.hid hm
  clear hm
  go_enter Tryd.func32, Tryd.ntmps32
  go_wp2
  go_loop [7] (fun i => ∃ q : Nat, k + q ≤ s.size ∧ i = .int .i64 q ∧ q + Lx.runN Lx.alnB (s.data.toList.drop (k + q)) = m) (fun i => s.size - k - (intOf i).toNat)
  case atStart => exact ⟨0, hk, rfl, by rw [Nat.add_zero, HM.out]; omega⟩
  case round =>
    obtain ⟨q, hq, rfl, hJ⟩ := hrel
    have HJ := Lib.hid hJ
    clear hJ
    by_cases hlt : k + q < s.size
    · have hlt2 : (k : Int) + (q : Int) < (s.size : Int) := by omega
      have hd := refDigit_any (s[k + q].toNat : Int)
      have hl := refLetter_any (s[k + q].toNat : Int)
      cases hcd : Lx.digB (s[k + q].toNat : Int)
      · rw [hcd] at hd
        cases hcl : Lx.letB (s[k + q].toNat : Int)
        · rw [hcl] at hl
          have HC : Hid (Lx.alnB (s[k + q].toNat : Int) = false) := by show _ = _; simp [Lx.alnB, hcl, hcd]
          have HD := Lib.hid hd
          have HL := Lib.hid hl
          clear hd hcd hl hcl
          go_wp2_with (first
            | (go_at_call 35; refine (HD.out _).mono ?_; rintro e w' ⟨rfl, rfl⟩)
            | (go_at_call 31; refine (HL.out _).mono ?_; rintro e w' ⟨rfl, rfl⟩))
          go_ret
          exact ⟨ret_int (by rw [run_stop hlt HC.out HJ.out]), rfl⟩
        · rw [hcl] at hl
          have HC : Hid (Lx.alnB (s[k + q].toNat : Int) = true) := by show _ = _; simp [Lx.alnB, hcl]
          have HD := Lib.hid hd
          have HL := Lib.hid hl
          clear hd hcd hl hcl
          go_wp2_with (first
            | (go_at_call 35; refine (HD.out _).mono ?_; rintro e w' ⟨rfl, rfl⟩)
            | (go_at_call 31; refine (HL.out _).mono ?_; rintro e w' ⟨rfl, rfl⟩))
          go_round
          case rel => exact ⟨q + 1, by omega, by go_num, run_step hlt HC.out HJ.out⟩
          case measure => simp [intOf]; omega
      · rw [hcd] at hd
        have HC : Hid (Lx.alnB (s[k + q].toNat : Int) = true) := by show _ = _; simp [Lx.alnB, hcd]
        have HD := Lib.hid hd
        clear hd hcd hl
        go_wp2_with (go_at_call 35; refine (HD.out _).mono ?_; rintro e w' ⟨rfl, rfl⟩)
        go_round
        case rel => exact ⟨q + 1, by omega, by go_num, run_step hlt HC.out HJ.out⟩
        case measure => simp [intOf]; omega
    · have hlt2 : (s.size : Int) ≤ (k : Int) + (q : Int) := by omega
      go_wp2
      go_ret
      exact ⟨ret_int (by rw [run_out (by omega) HJ.out]), rfl⟩
end Go.Proofs.YtnadaedibicaaaaDoor.Ln

namespace Go.Proofs.YtnadaedibicaaaaDoor.Ln
open Go.ChangeShapes Go.WideShapes Go.ChangeAt Go.WideMaps Go.WideElems Go.RowKit

/-! An array of strings that reads as a table of texts. -/
def textData {H : Type} (zs : List (List UInt8)) : DataW H := .agg (zs.map fun z => .lit (.string z))
theorem cells_of_texts {H : Type} {enc : TypeId × Value → H} {P : Program} {w : World} {base : Nat} {sp : Nat → Bool} {held : Bool} {fuel : Nat} {t e : TypeId} {n : Nat} {cs : List Value} {zs : List (List UInt8)} {p : List MemPlace}
    (ht : P.underlying t = some (.array n e)) (he : P.underlying e = some .string) (hce : P.cellsOf e = 1) (hct : P.cellsOf t = n)
    (h : DataW.trod enc P w base sp held fuel t cs = some (textData zs, p)) : cs = zs.map fun z => Value.string (bs z) := by
  cases fuel with
  | zero => simp [DataW.trod] at h
  | succ fuel =>
    simp only [DataW.trod, ht, hce, hct, Nat.mul_one] at h
    split at h
    · rename_i hl
      obtain ⟨xs, hm, hx⟩ := Option.map_eq_some_iff.1 h
      have hxs : xs.map (·.1) = zs.map fun z => (DataW.lit (.string z) : DataW H) := by
        have := congrArg Prod.fst hx
        simpa [textData] using this
      have hxl : xs.length = n := by simpa using Lib.mapM_length hm
      have hzl : zs.length = n := by
        have := congrArg List.length hxs
        simp at this
        omega
      apply List.ext_getElem?
      intro i
      by_cases hi : i < n
      · obtain ⟨b, hb, hf⟩ := Lib.mapM_at hm i i (by simp [hi])
        obtain ⟨z, hc, hbz, _⟩ := DataW.trod_string he hf
        have h1 : cs[i]? = some (.string z) := by
          have := congrArg (·[0]?) hc
          simpa [List.getElem?_take, List.getElem?_drop] using this
        have h2 : (xs.map (·.1))[i]? = some (DataW.lit (.string z.data.toList) : DataW H) := by simp [hb, hbz]
        rw [hxs] at h2
        simp only [List.getElem?_map, Option.map_eq_some_iff, DataW.lit.injEq, Lit.string.injEq] at h2
        obtain ⟨z', hz', hq⟩ := h2
        rw [h1, List.getElem?_map, hz', hq]
        rfl
      · rw [List.getElem?_eq_none (by omega), List.getElem?_eq_none (by simp; omega)]
    · cases h

theorem heap_of_var {P : Program} {w : World} {n : String} {g : Nat} {cs : Array Value} (hg : P.globalNamed n = some g) (h : w.var? P n = some cs) : ∃ t fr, w.heap[g]? = some (.cells cs t fr) := by
  simp only [World.var?, hg, Option.bind_some] at h
  split at h
  · rename_i cs' t fr he
    injection h with h
    exact ⟨t, fr, by rw [he, h]⟩
  · cases h
theorem textIs_of_head {P : Program} {W : World} {name : String} {zs : List (List UInt8)} {rest : List (String × DataW Unit)} {g : Nat} {t e : TypeId} {n : Nat}
    (hg : P.globalNamed name = some g) (hty : (P.globals[g]?).map (·.type) = some t) (ht : P.underlying t = some (.array n e)) (he : P.underlying e = some .string) (hce : P.cellsOf e = 1) (hct : P.cellsOf t = n)
    (h : laidMet P ((name, textData zs) :: rest) W) : ∃ t' fr, W.heap[g]? = some (.cells (zs.map fun z => Value.string (bs z)).toArray t' fr) := by
  obtain ⟨ps, ⟨g', t', cs, fuel, p, q, hg', ht', hvar, hd, _, _⟩, _⟩ := h
  obtain rfl := Option.some.inj (hg.symm.trans hg')
  obtain rfl := Option.some.inj (hty.symm.trans ht')
  refine heap_of_var hg ?_
  rw [hvar, ← cells_of_texts ht he hce hct hd]

def signsV : Array Value := (Lx.signs.map fun z => Value.string (bs z)).toArray
theorem signsV_size : signsV.size = 23 := by simp [signsV, Lx.signs]
theorem signsV_at {j : Nat} {g : List UInt8} (h : Lx.signs[j]? = some g) : signsV[j]? = some (.string (bs g)) := by
  simp [signsV, h]

theorem cell_lt {w : World} {b o : Nat} {v : Value} (h : w.cell? ⟨b, o, none⟩ = some v) : b < w.heap.size := by
  rcases Nat.lt_or_ge b w.heap.size with h' | h'
  · exact h'
  · simp [World.cell?, Array.getElem?_eq_none h'] at h
theorem heap_lt {w : World} {b : Nat} {v : Obj} (h : w.heap[b]? = some v) : b < w.heap.size := (Array.getElem?_eq_some_iff.1 h).1

theorem own : ownKnob Tryd.prog.godebug = none := by kernel_rfl

theorem starE : ("*errors.errorString" : String) = "*" ++ "errors.errorString" := by decide
end Go.Proofs.YtnadaedibicaaaaDoor.Ln

namespace Go.Proofs.YtnadaedibicaaaaDoor.Ln
namespace Lx
def oneWord (r : List UInt8) : Option (Nat × List UInt8 × Nat × Nat) :=
  if isWord (r.take (runN alnB r)) then some (3, r.take (runN alnB r), 0, runN alnB r)
  else if isName (r.take (runN alnB r)) then some (1, r.take (runN alnB r), 0, runN alnB r)
  else none
def oneNum (r : List UInt8) : Option (Nat × List UInt8 × Nat × Nat) :=
  if numBad r then none else some (2, [], valN 0 (r.take (runN digB r)), runN digB r)
def oneSign (r : List UInt8) : Option (Nat × List UInt8 × Nat × Nat) :=
  match signAt r with
  | none => none
  | some g => some (4, g, 0, g.length)
theorem one_word (c : UInt8) (r : List UInt8) (h : letB (c.toNat : Int) = true) : one (c :: r) = oneWord (c :: r) := by
  rw [one, if_pos h, oneWord]
theorem one_num (c : UInt8) (r : List UInt8) (h : letB (c.toNat : Int) = false) (h2 : digB (c.toNat : Int) = true) : one (c :: r) = oneNum (c :: r) := by
  rw [one, if_neg (by rw [h]; decide), if_pos h2, oneNum]
theorem one_sign (c : UInt8) (r : List UInt8) (h : letB (c.toNat : Int) = false) (h2 : digB (c.toNat : Int) = false) : one (c :: r) = oneSign (c :: r) := by
  rw [one, if_neg (by rw [h]; decide), if_neg (by rw [h2]; decide), oneSign]
  try (cases signAt (c :: r) <;> rfl)
end Lx
open Go.RowKit

/-- What scan and its parts answer. -/
def scanV (k : Nat) : Option (Nat × List UInt8 × Nat × Nat) → Value
  | none => .tuple #[.agg #[.int .i64 0, .string ⟨#[]⟩, .int .i64 0, .int .i64 0], .int .i64 0, .bool false]
  | some (kind, text, num, m) => .tuple #[.agg #[.int .i64 kind, .string (bs text), .int .i64 num, .int .i64 k], .int .i64 (k + m : Nat), .bool true]

theorem infoS_some : ∃ i, Tryd.prog.info? 9 = some i ∧ i.size = 1 := by
  have h : (Tryd.prog.info? 9).map (·.size) = some 1 := by kernel_rfl
  cases hi : Tryd.prog.info? 9 with
  | none => rw [hi] at h; cases h
  | some i => rw [hi] at h; exact ⟨i, rfl, by simpa using h⟩

theorem index_texts {P : Program} (t e : TypeId) (n : Nat) (i : TypeInfo) (cs : Array Value) (j : Nat) (g : List UInt8) (ht : P.underlying t = some (.array n e)) (he : P.underlying e = some .string) (hi : P.info? e = some i) (hs : i.size = 1) (hj : j < n) (hc : cs[j]? = some (.string (bs g))) (w : World) :
    (Instr.index t (.agg cs) (.int .i64 (j : Int))).run P w = .ok (.string (bs g)) w := by
  have h1 : (0 : Int) ≤ (j : Int) ∧ (j : Int) < (n : Int) := ⟨by omega, by omega⟩
  simp [Instr.index, asIntOf, run_underlying ht, h1, sizeOf, typeInfo, hi, hs, part, hc, run_isAgg_plain he rfl]
  intro h; omega

theorem ret_scan {k m kind num : Nat} {text : List UInt8} {E : Int} (h : E = ((k + m : Nat) : Int)) :
    Ending.returned (.tuple #[.agg #[.int .i64 kind, .string (bs text), .int .i64 num, .int .i64 k], .int .i64 E, .bool true]) = .returned (scanV k (some (kind, text, num, m))) := by rw [h]; rfl
theorem ret_none {k : Nat} : Ending.returned (.tuple #[.agg #[.int .i64 0, .string ⟨#[]⟩, .int .i64 0, .int .i64 0], .int .i64 0, .bool false]) = .returned (scanV k none) := rfl

theorem signs_len : Lx.signs.length = 23 := by decide
theorem signAt_none {r : List UInt8} (h : ∀ g ∈ Lx.signs, g.isPrefixOf r = false) : Lx.signAt r = none := by
  rw [Lx.signAt, List.find?_eq_none]
  intro g hg
  rw [h g hg]; decide
theorem find_first : ∀ (l : List (List UInt8)) (p : List UInt8 → Bool) (j : Nat) (g : List UInt8), l[j]? = some g → (∀ x ∈ l.take j, p x = false) → p g = true → l.find? p = some g
  | [], _, _, _, h, _, _ => by simp at h
  | x :: l, p, 0, g, h, _, hp => by
    simp at h
    subst h
    simp [hp]
  | x :: l, p, j + 1, g, h, hn, hp => by
    have hx := hn x (by simp)
    rw [List.find?_cons_of_neg (by rw [hx]; decide)]
    exact find_first l p j g (by simpa using h) (fun y hy => hn y (by simp [hy])) hp
theorem signAt_first {r g : List UInt8} {j : Nat} (hg : Lx.signs[j]? = some g) (hn : ∀ x ∈ Lx.signs.take j, x.isPrefixOf r = false) (hp : g.isPrefixOf r = true) : Lx.signAt r = some g :=
  find_first Lx.signs _ j g hg hn hp
theorem signs_step {r g : List UInt8} {j : Nat} (hg : Lx.signs[j]? = some g) (hn : ∀ x ∈ Lx.signs.take j, x.isPrefixOf r = false) (hp : g.isPrefixOf r = false) : ∀ x ∈ Lx.signs.take (j + 1), x.isPrefixOf r = false := by
  intro x hx
  rw [List.take_add_one, hg] at hx
  simp only [Option.toList, List.mem_append, List.mem_singleton] at hx
  rcases hx with hx | rfl
  · exact hn x hx
  · exact hp

end Go.Proofs.YtnadaedibicaaaaDoor.Ln

namespace Go.Proofs.YtnadaedibicaaaaDoor.Ln
open Go.RowKit

theorem ext_list (s : ByteArray) (k m : Nat) : (s.extract k (k + m)).data.toList = (s.data.toList.drop k).take m := by
  rw [Lib.extract_data]
  congr 1
  omega
theorem ext_bs (s : ByteArray) (k m n : Nat) (h : k + m = n) : s.extract k n = bs ((s.data.toList.drop k).take m) := by
  rw [← h, ← bs_of (s.extract k (k + m)), ext_list]
theorem ext_size (s : ByteArray) (k n : Nat) : (s.extract k n).size ≤ s.size := by
  rw [ByteArray.size_extract]; omega
theorem small_max {s : ByteArray} (h : s.size ≤ 6000) : s.size ≤ maxLen := by unfold maxLen; omega
theorem ext_max {s : ByteArray} (k n : Nat) (h : s.size ≤ 6000) : (s.extract k n).size ≤ maxLen := by
  have := ext_size s k n
  unfold maxLen; omega

/-! A struct of four cells in a block of the call's own, behind a call that makes memory. -/
theorem box_at {w w1 : World} {cs : Array Value} {T : TypeId} (hb : Below (w.alloc (.cells cs T)).heap.size (w.alloc (.cells cs T)) w1) : w1.heap[w.heap.size]? = some (.cells cs T (0, 0)) := by
  rw [hb.block _ (by simp)]; exact heap_alloc_new w _
theorem box4 {w1 : World} {B : Nat} {T : TypeId} {a b c d : Value} (h : w1.heap[B]? = some (.cells #[a, b, c, d] T (0, 0))) :
    (w1.cell? ⟨B, 0, none⟩ = some a ∧ w1.cell? ⟨B, 1, none⟩ = some b ∧ w1.cell? ⟨B, 2, none⟩ = some c ∧ w1.cell? ⟨B, 3, none⟩ = some d) ∧
    (w1.frozen? ⟨B, 0, none⟩ = false ∧ w1.frozen? ⟨B, 1, none⟩ = false ∧ w1.frozen? ⟨B, 2, none⟩ = false ∧ w1.frozen? ⟨B, 3, none⟩ = false) :=
  ⟨⟨by rw [cell_of_row _ _ _ _ _ _ h]; rfl, by rw [cell_of_row _ _ _ _ _ _ h]; rfl, by rw [cell_of_row _ _ _ _ _ _ h]; rfl, by rw [cell_of_row _ _ _ _ _ _ h]; rfl⟩,
    frozen_of_row _ _ _ _ _ h, frozen_of_row _ _ _ _ _ h, frozen_of_row _ _ _ _ _ h, frozen_of_row _ _ _ _ _ h⟩
theorem below_box {w w1 : World} {o : Obj} (hb : Below (w.alloc o).heap.size (w.alloc o) w1) : Below w.heap.size w w1 :=
  ((Below.refl _ _).alloc (Nat.le_refl _) o).trans (hb.mono (by simp))

/-! What one says, by the places of a text. -/
theorem one_word_at {s : ByteArray} {k : Nat} (hk : k < s.size) (h : Lx.letB (s[k].toNat : Int) = true) : Lx.one (s.data.toList.drop k) = Lx.oneWord (s.data.toList.drop k) := by
  rw [drop_at s k hk]; exact Lx.one_word _ _ h
theorem one_num_at {s : ByteArray} {k : Nat} (hk : k < s.size) (h : Lx.letB (s[k].toNat : Int) = false) (h2 : Lx.digB (s[k].toNat : Int) = true) : Lx.one (s.data.toList.drop k) = Lx.oneNum (s.data.toList.drop k) := by
  rw [drop_at s k hk]; exact Lx.one_num _ _ h h2
theorem one_sign_at {s : ByteArray} {k : Nat} (hk : k < s.size) (h : Lx.letB (s[k].toNat : Int) = false) (h2 : Lx.digB (s[k].toNat : Int) = false) : Lx.one (s.data.toList.drop k) = Lx.oneSign (s.data.toList.drop k) := by
  rw [drop_at s k hk]; exact Lx.one_sign _ _ h h2

/-! Numbers. -/
theorem head_at {s : ByteArray} {k : Nat} (hk : k < s.size) : (s.data.toList.drop k).head? = some s[k] := by rw [drop_at s k hk]; rfl
theorem nextLet_at {s : ByteArray} {n : Nat} (hn : n < s.size) : Lx.nextLet (s.data.toList.drop n) = Lx.letB (s[n].toNat : Int) := by rw [drop_at s n hn]; rfl
theorem nextLet_out {s : ByteArray} {n : Nat} (hn : s.size ≤ n) : Lx.nextLet (s.data.toList.drop n) = false := by rw [drop_out s n hn]; rfl
theorem numBad_at {s : ByteArray} {k m n V : Nat} (hk : k < s.size) (hm : Lx.runN Lx.digB (s.data.toList.drop k) = m) (hn : k + m = n) (hV : Lx.valN 0 ((s.data.toList.drop k).take m) = V) :
    Lx.numBad (s.data.toList.drop k) = (decide (s[k] = 48 ∧ 1 < m) || decide (9223372036854775807 < V) || Lx.nextLet (s.data.toList.drop n)) := by
  rw [Lx.numBad, hm, hV, List.drop_drop, hn, head_at hk]
  simp
theorem byte48 {c : UInt8} (h : ((c.toNat : Int) == 48) = true) : c = 48 := by
  have h1 := beq_iff_eq.1 h
  exact UInt8.toNat_inj.1 (by show c.toNat = 48; omega)
theorem byte48n {c : UInt8} (h : ((c.toNat : Int) == 48) = false) : c ≠ 48 := by
  rintro rfl
  exact absurd h (by decide)

def numV (m V : Nat) : Option (Nat × List UInt8 × Nat × Nat) := if V ≤ 9223372036854775807 then some (2, [], V, m) else none

end Go.Proofs.YtnadaedibicaaaaDoor.Ln

namespace Go.Proofs.YtnadaedibicaaaaDoor.Ln
open Go.RowKit

theorem scanV_form (k : Nat) (o : Option (Nat × List UInt8 × Nat × Nat)) : ∃ (a : Int) (b : ByteArray) (c d e : Int) (f : Bool), scanV k o = .tuple #[.agg #[.int .i64 a, .string b, .int .i64 c, .int .i64 d], .int .i64 e, .bool f] := by
  rcases o with _ | ⟨kind, text, num, m⟩
  · exact ⟨_, _, _, _, _, _, rfl⟩
  · exact ⟨_, _, _, _, _, _, rfl⟩

end Go.Proofs.YtnadaedibicaaaaDoor.Ln

namespace Go.Proofs.YtnadaedibicaaaaDoor.Ln
open Go.RowKit

def tokCells (t : Lx.Tk) : List Value := [.int .i64 t.kind, .string (bs t.text), .int .i64 t.num, .int .i64 t.at_]
def cellsOf (ts : List Lx.Tk) : List Value := ts.flatMap tokCells
theorem cellsOf_snoc (ts : List Lx.Tk) (t : Lx.Tk) : cellsOf (ts ++ [t]) = cellsOf ts ++ tokCells t := by simp [cellsOf]
theorem cellsOf_len (ts : List Lx.Tk) : (cellsOf ts).length = ts.length * 4 := by
  induction ts with
  | nil => rfl
  | cons t ts ih => simp [cellsOf, tokCells] at ih ⊢; omega

/-- A slice, from the front of its row on, that reads as these cells, in a block below B. -/
def Lies (w : World) (B : Nat) (A : Option Addr) (xs : List Value) : Prop :=
  xs ≠ [] → ∃ g, A = some ⟨g, 0, none⟩ ∧ g < B ∧ ∀ j u, xs[j]? = some u → w.cell? ⟨g, j, none⟩ = some u
theorem Lies.below {w w' : World} {B : Nat} {A : Option Addr} {xs : List Value} (h : Lies w B A xs) (hb : Below B w w') : Lies w' B A xs := by
  intro hx
  obtain ⟨g, ha, hg, hc⟩ := h hx
  exact ⟨g, ha, hg, fun j u hu => by rw [hb.cell (p := ⟨g, j, none⟩) hg]; exact hc j u hu⟩
theorem Lies.mono {w : World} {B B' : Nat} {A : Option Addr} {xs : List Value} (h : Lies w B A xs) (hB : B ≤ B') : Lies w B' A xs := by
  intro hx
  obtain ⟨g, ha, hg, hc⟩ := h hx
  exact ⟨g, ha, by omega, hc⟩
theorem Lies.nil {w : World} {B : Nat} {A : Option Addr} : Lies w B A [] := fun h => absurd rfl h
theorem lies_of_own {w : World} {base n sz : Nat} {T : TypeId} {v : Value} {xs : List Value} (h : w.ownsRow base T sz v n xs) : ∃ A c, v = .slice A n c ∧ Lies w w.heap.size A xs := by
  rcases h.2 with ⟨rfl, rfl⟩ | ⟨g, cap, cur, rfl, _, hg, _⟩
  · have : xs = [] := List.eq_nil_of_length_eq_zero (by have := h.1; omega)
    exact ⟨none, 0, rfl, by rw [this]; exact Lies.nil⟩
  · refine ⟨_, _, rfl, fun _ => ⟨g, rfl, heap_lt hg, fun j u hu => ?_⟩⟩
    have := h.cells (g := g) rfl j u hu
    have hadd : (⟨g, 0, none⟩ : Addr).add j = ⟨g, j, none⟩ := by unfold Addr.add; split <;> simp_all
    rw [← hadd]; exact this

/-- What Tokens answers. -/
def TokRes (l : List UInt8) (w : World) (e : Ending) (w' : World) : Prop :=
  ∃ (A : Option Addr) (c : Nat), e = .returned (.tuple #[.slice A (Lx.toks l).1.length c, .agg #[.int .i64 (Lx.toks l).2.1, .int .i64 (Lx.toks l).2.2]]) ∧ Lies w' w'.heap.size A (cellsOf (Lx.toks l).1) ∧ Below w.heap.size w w'

theorem toks_long {l : List UInt8} (h : 6000 < l.length) : Lx.toks l = ([], 4, 0) := by rw [Lx.toks, if_pos h]
theorem toks_fault {l : List UInt8} {k : Nat} (h : l.length ≤ 6000) (h2 : Lx.lexAll l = .error k) : Lx.toks l = ([], 1, k) := by rw [Lx.toks, if_neg (by omega), h2]
theorem toks_ok {l : List UInt8} {ts : List Lx.Tk} (h : l.length ≤ 6000) (h2 : Lx.lexAll l = .ok ts) : Lx.toks l = (ts ++ [⟨0, [], 0, l.length⟩], 0, 0) := by rw [Lx.toks, if_neg (by omega), h2]

theorem infoTok : (Tryd.prog.info? 51).map (fun i => (i.zero, i.size, i.bytes)) = some (some (.agg #[.int .i64 0, .string ⟨#[]⟩, .int .i64 0, .int .i64 0]), 4, 40) := by kernel_rfl

theorem res_long {l : List UInt8} (h : 6000 < l.length) {w w' : World} (hb : Below w.heap.size w w') : TokRes l w (.returned (.tuple #[.slice none 0 0, .agg #[.int .i64 4, .int .i64 0]])) w' := by
  unfold TokRes
  rw [toks_long h]
  exact ⟨none, 0, rfl, Lies.nil, hb⟩
theorem res_fault {l : List UInt8} {k : Nat} (h : l.length ≤ 6000) (h2 : Lx.lexAll l = .error k) {w w' : World} (hb : Below w.heap.size w w') : TokRes l w (.returned (.tuple #[.slice none 0 0, .agg #[.int .i64 1, .int .i64 k]])) w' := by
  unfold TokRes
  rw [toks_fault h h2]
  exact ⟨none, 0, rfl, Lies.nil, hb⟩
theorem res_ok {l : List UInt8} {ts : List Lx.Tk} (h : l.length ≤ 6000) (h2 : Lx.lexAll l = .ok ts) {w w' : World} (hb : Below w.heap.size w w') {A : Option Addr} {n c : Nat} (hn : n = ts.length + 1) (hl : Lies w' w'.heap.size A (cellsOf ts ++ tokCells ⟨0, [], 0, l.length⟩)) :
    TokRes l w (.returned (.tuple #[.slice A n c, .agg #[.int .i64 0, .int .i64 0]])) w' := by
  unfold TokRes
  rw [toks_ok h h2]
  refine ⟨A, c, ?_, ?_, hb⟩
  · rw [hn]; simp
  · rw [cellsOf_snoc]; exact hl

/-- What the loop of Tokens keeps: the block of the fault; the tokens; the memory that was there. -/
structure TokLoop (l : List UInt8) (w : World) (ts : List Lx.Tk) (k : Nat) (v : Value) (wr : World) : Prop where
  come : Lx.Come l ts k
  few : ts.length ≤ k
  own : wr.ownsRow (w.heap.size + 1) 51 4 v ts.length (cellsOf ts)
  blk : wr.heap[w.heap.size]? = some (.cells #[.int .i64 0, .int .i64 0] 25 (0, 0))
  bel : Below w.heap.size w wr

theorem TokLoop.start {l : List UInt8} {w : World} {k : Nat} (hk : Lx.skipS false l = k) : TokLoop l w [] k (.slice none 0 0) (w.alloc (.cells #[.int .i64 0, .int .i64 0] 25)) :=
  ⟨by rw [← hk]; exact Lx.come_start l, Nat.zero_le _, World.ownsRow_nil _ _ _ _, heap_alloc_new _ _, (Below.refl _ _).alloc (Nat.le_refl _) _⟩

theorem scanV_none (k : Nat) : scanV k none = .tuple #[.agg #[.int .i64 0, .string ⟨#[]⟩, .int .i64 0, .int .i64 0], .int .i64 0, .bool false] := rfl
theorem scanV_some (k kind num m : Nat) (text : List UInt8) : scanV k (some (kind, text, num, m)) = .tuple #[.agg #[.int .i64 kind, .string (bs text), .int .i64 num, .int .i64 k], .int .i64 (k + m : Nat), .bool true] := rfl
theorem box2 {w1 : World} {B : Nat} {T : TypeId} {a b : Value} (h : w1.heap[B]? = some (.cells #[a, b] T (0, 0))) :
    (w1.cell? ⟨B, 0, none⟩ = some a ∧ w1.cell? ⟨B, 1, none⟩ = some b) ∧ (w1.frozen? ⟨B, 0, none⟩ = false ∧ w1.frozen? ⟨B, 1, none⟩ = false) ∧ B < w1.heap.size :=
  ⟨⟨by rw [cell_of_row _ _ _ _ _ _ h]; rfl, by rw [cell_of_row _ _ _ _ _ _ h]; rfl⟩, ⟨frozen_of_row _ _ _ _ _ h, frozen_of_row _ _ _ _ _ h⟩, heap_lt h⟩

theorem below_go {w wr w1 : World} (h1 : Below w.heap.size w wr) (h2 : Below wr.heap.size wr w1) : Below w.heap.size w w1 := h1.trans (h2.mono h1.size)
theorem grown_below {w w1 : World} (hb : Below w.heap.size w w1) : w.grownBy w1 none := ⟨hb.os, hb.tape, hb.output, hb.size, fun i hi _ => hb.block i hi⟩
theorem own_below {w w1 : World} {base n sz : Nat} {T : TypeId} {v : Value} {xs : List Value} (h : w.ownsRow base T sz v n xs) (hb : Below w.heap.size w w1) : w1.ownsRow base T sz v n xs :=
  h.kept (grown_below hb) (by cases v.ownBlock <;> simp)

theorem TokLoop.next {l : List UInt8} {w wr w1 w2 : World} {ts : List Lx.Tk} {k kind num m p q : Nat} {text : List UInt8} {v v' : Value} {o1 o2 : Obj} (h : TokLoop l w ts k v wr) (hk : k < l.length) (hone : Lx.one (l.drop k) = some (kind, text, num, m)) (hp : k + m = p)
    (hq : p + Lx.skipS false (l.drop p) = q) (hb : Below wr.heap.size wr w1) (hg : ((w1.alloc o1).alloc o2).grownBy w2 v.ownBlock) (hown : w2.ownsRow (w.heap.size + 1) 51 4 v' (ts.length + 1) (cellsOf ts ++ tokCells ⟨kind, text, num, k⟩)) :
    TokLoop l w (ts ++ [⟨kind, text, num, k⟩]) q v' w2 := by
  have hm := Lx.one_len hone
  have hlt := heap_lt h.blk
  have hbs := hb.size
  refine ⟨?_, ?_, ?_, ?_, ?_⟩
  · rw [← hq, ← hp]; exact Lx.come_next h.come hk hone
  · have := h.few
    rw [List.length_append, List.length_singleton]; omega
  · rw [cellsOf_snoc, List.length_append, List.length_singleton]; exact hown
  · rw [hg.block w.heap.size (by simp; omega) (fun e => by have := (h.own.lt _ e.symm).1; omega)]
    rw [heap_alloc_old _ _ (by simp; omega), heap_alloc_old _ _ (by omega), hb.block _ hlt]
    exact h.blk
  · refine (((below_go h.bel hb).alloc (by omega) o1).alloc (by simp; omega) o2).grown hg (by simp; omega) (fun j hj => ?_)
    have := (h.own.lt _ hj).1
    omega

theorem news4 (W : World) (a b c d : Value) (T : TypeId) (B : Nat) (hB : B = W.heap.size) : ∀ j u, [a, b, c, d][j]? = some u → (W.alloc (.cells #[a, b, c, d] T)).cell? ((⟨B, 0, none⟩ : Addr).add j) = some u := by
  intro j u hu
  subst hB
  have hadd : (⟨W.heap.size, 0, none⟩ : Addr).add j = ⟨W.heap.size, j, none⟩ := by unfold Addr.add; split <;> simp_all
  rw [hadd, cell_of_row _ _ j _ _ _ (heap_alloc_new W _)]
  simpa using hu
theorem tok_one (t : Lx.Tk) : ∀ u ∈ tokCells t, u.oneCell' = true := by
  intro u hu
  simp [tokCells] at hu
  rcases hu with rfl | rfl | rfl | rfl <;> rfl
theorem own_set {w : World} {base n sz : Nat} {T : TypeId} {v : Value} {xs : List Value} (h : w.ownsRow base T sz v n xs) {p : Addr} (hp : p.block < base) (u : Value) : (w.setCell p u).ownsRow base T sz v n xs := by
  refine h.kept (row := some p.block) ⟨rfl, rfl, rfl, by simp [World.setCell], fun i _ hne => Below.heap_setCell w p u i (fun e => hne (by rw [e]))⟩ ?_
  cases hv : v.ownBlock with
  | none => exact Or.inl rfl
  | some g => exact Or.inr (fun e => by have := (h.lt g hv).1; injection e; omega)

theorem lies_set2 {w : World} {B n c sz : Nat} {T : TypeId} {A : Option Addr} {xs : List Value} (h : w.ownsRow (B + 1) T sz (.slice A n c) n xs) (x y : Value) :
    Lies ((w.setCell ⟨B, 0, none⟩ x).setCell ⟨B, 1, none⟩ y) ((w.setCell ⟨B, 0, none⟩ x).setCell ⟨B, 1, none⟩ y).heap.size A xs := by
  have h2 := own_set (own_set h (p := ⟨B, 0, none⟩) (by simp) x) (p := ⟨B, 1, none⟩) (by simp) y
  obtain ⟨A', c', he, hl⟩ := lies_of_own h2
  injection he with he _ _
  rw [he]; exact hl

theorem TokLoop.blk_last {l : List UInt8} {w wr w2 : World} {ts : List Lx.Tk} {k : Nat} {v : Value} {o1 : Obj} (h : TokLoop l w ts k v wr) (hg : (wr.alloc o1).grownBy w2 v.ownBlock) : w2.heap[w.heap.size]? = some (.cells #[.int .i64 0, .int .i64 0] 25 (0, 0)) := by
  have hlt := heap_lt h.blk
  rw [hg.block w.heap.size (by simp; omega) (fun e => by have := (h.own.lt _ e.symm).1; omega), heap_alloc_old _ _ (by omega)]
  exact h.blk
theorem TokLoop.bel_last {l : List UInt8} {w wr w2 : World} {ts : List Lx.Tk} {k : Nat} {v : Value} {o1 : Obj} (h : TokLoop l w ts k v wr) (hg : (wr.alloc o1).grownBy w2 v.ownBlock) : Below w.heap.size w w2 := by
  have hlt := heap_lt h.blk
  refine (h.bel.alloc (by omega) o1).grown hg (by simp; omega) (fun j hj => ?_)
  have := (h.own.lt _ hj).1
  omega

end Go.Proofs.YtnadaedibicaaaaDoor.Ln

namespace Go.Proofs.YtnadaedibicaaaaDoor.Ln
open Go.RowKit

def twos : List (List UInt8) := [[60, 61], [61, 61], [33, 61], [38, 38], [124, 124]]
def ones : List UInt8 := [123, 125, 40, 41, 91, 93, 59, 58, 44, 46, 61, 43, 45, 42, 47, 37, 60, 33]
theorem signs_eq : Lx.signs = twos ++ ones.map fun c => [c] := rfl
theorem two_len : ∀ g ∈ twos, g.length = 2 := by decide
/-- The sign in front, or nothing. -/
def signText (r : List UInt8) : List UInt8 := (Lx.signAt r).getD []

def HasTwos (B : Nat) (w : World) : Prop := ∀ j g, twos[j]? = some g → w.cell? ⟨B, j, none⟩ = some (.string (bs g))
theorem hasTwos_new (w : World) : HasTwos w.heap.size (w.alloc (.cells #[.string ⟨#[60, 61]⟩, .string ⟨#[61, 61]⟩, .string ⟨#[33, 61]⟩, .string ⟨#[38, 38]⟩, .string ⟨#[124, 124]⟩] 9)) := by
  intro j g hg
  rw [cell_of_row _ _ j _ _ _ (heap_alloc_new w _)]
  match j, hg with
  | 0, hg => injection hg with hg; rw [← hg]; rfl
  | 1, hg => injection hg with hg; rw [← hg]; rfl
  | 2, hg => injection hg with hg; rw [← hg]; rfl
  | 3, hg => injection hg with hg; rw [← hg]; rfl
  | 4, hg => injection hg with hg; rw [← hg]; rfl

theorem two_pre (s : ByteArray) (k : Nat) (h : k + 2 ≤ s.size) (g : List UInt8) (hg : g.length = 2) : ((s.extract k (k + 2)).toList == (bs g).toList) = g.isPrefixOf (s.data.toList.drop k) := by
  rw [Lib.toList_data, Lib.toList_data, bs_list, Lib.extract_data, drop_at s k (by omega), drop_at s (k + 1) (by omega)]
  match g, hg with
  | [a, b], _ =>
    rw [Bool.eq_iff_iff]
    simp [List.isPrefixOf]
    exact ⟨fun ⟨a, b⟩ => ⟨a.symm, b.symm⟩, fun ⟨a, b⟩ => ⟨a.symm, b.symm⟩⟩

theorem pre_step {p : List UInt8 → Bool} {l : List (List UInt8)} {g : List UInt8} {j : Nat} (hg : l[j]? = some g) (hn : ∀ x ∈ l.take j, p x = false) (hp : p g = false) : ∀ x ∈ l.take (j + 1), p x = false := by
  intro x hx
  rw [List.take_add_one, hg] at hx
  simp only [Option.toList, List.mem_append, List.mem_singleton] at hx
  rcases hx with hx | rfl
  · exact hn x hx
  · exact hp

/-- No sign of two bytes stands in front. -/
def NoTwo (s : ByteArray) (k : Nat) : Prop := ∀ x ∈ twos, x.isPrefixOf (s.data.toList.drop k) = false

theorem noTwo_short (s : ByteArray) (k : Nat) (h : ¬ k + 2 ≤ s.size) : NoTwo s k := by
  intro x hx
  have h2 := two_len x hx
  cases hp : x.isPrefixOf (s.data.toList.drop k)
  · rfl
  · have := (List.isPrefixOf_iff_prefix.1 hp).length_le
    rw [List.length_drop, len_of] at this
    omega

theorem below_drawn {B : Nat} {w wr : World} (h : Below B w wr) (n : Nat) : Below B w (wr.drewN n) := ⟨h.os, h.tape, h.output, h.size, h.block⟩
theorem twos_at {j : Nat} {g : List UInt8} (h : twos[j]? = some g) : Lx.signs[j]? = some g := by
  rw [signs_eq, List.getElem?_append_left (List.getElem?_eq_some_iff.1 h).1]; exact h
theorem sign_two {r g : List UInt8} {j : Nat} (hg : twos[j]? = some g) (hn : ∀ x ∈ twos.take j, x.isPrefixOf r = false) (hp : g.isPrefixOf r = true) : g = signText r := by
  have hj := (List.getElem?_eq_some_iff.1 hg).1
  have : Lx.signAt r = some g := signAt_first (twos_at hg) (fun x hx => hn x (by rw [signs_eq, List.take_append_of_le_length (by omega)] at hx; exact hx)) hp
  rw [signText, this]; rfl

theorem ones_size : ({ data := #[123, 125, 40, 41, 91, 93, 59, 58, 44, 46, 61, 43, 45, 42, 47, 37, 60, 33] } : ByteArray).size = 18 := by decide
theorem ones_at {q : Nat} {c : UInt8} (h : ones[q]? = some c) (hq : q < ({ data := #[123, 125, 40, 41, 91, 93, 59, 58, 44, 46, 61, 43, 45, 42, 47, 37, 60, 33] } : ByteArray).size) : ({ data := #[123, 125, 40, 41, 91, 93, 59, 58, 44, 46, 61, 43, 45, 42, 47, 37, 60, 33] } : ByteArray)[q]'hq = c := by
  have h2 : ones[q]? = some (({ data := #[123, 125, 40, 41, 91, 93, 59, 58, 44, 46, 61, 43, 45, 42, 47, 37, 60, 33] } : ByteArray)[q]'hq) := List.getElem?_eq_getElem (l := ones) hq
  rw [h2] at h
  exact Option.some.inj h
theorem ones_cut {q : Nat} {c : UInt8} (h : ones[q]? = some c) : ({ data := #[123, 125, 40, 41, 91, 93, 59, 58, 44, 46, 61, 43, 45, 42, 47, 37, 60, 33] } : ByteArray).extract q (q + 1) = bs [c] := by
  rw [← bs_of (({ data := #[123, 125, 40, 41, 91, 93, 59, 58, 44, 46, 61, 43, 45, 42, 47, 37, 60, 33] } : ByteArray).extract q (q + 1)), ext_list]
  congr 1
  have hq := (List.getElem?_eq_some_iff.1 h).1
  have h3 : ({ data := #[123, 125, 40, 41, 91, 93, 59, 58, 44, 46, 61, 43, 45, 42, 47, 37, 60, 33] } : ByteArray).data.toList = ones := rfl
  rw [h3, List.drop_eq_getElem_cons hq]
  have := (List.getElem?_eq_some_iff.1 h).2
  rw [this]; rfl
theorem one_pre {s : ByteArray} {k : Nat} (hk : k < s.size) (c : UInt8) : [c].isPrefixOf (s.data.toList.drop k) = (c == s[k]) := by
  rw [drop_at s k hk]
  simp [List.isPrefixOf]
theorem twos_len : twos.length = 5 := rfl
theorem noTwo_take {s : ByteArray} {k q : Nat} (hk : k < s.size) (h : NoTwo s k) (hn : ∀ c ∈ ones.take q, c ≠ s[k]) : ∀ x ∈ Lx.signs.take (5 + q), x.isPrefixOf (s.data.toList.drop k) = false := by
  intro x hx
  rw [signs_eq, ← twos_len, List.take_length_add_append, List.mem_append] at hx
  rcases hx with hx | hx
  · exact h x hx
  · rw [← List.map_take, List.mem_map] at hx
    obtain ⟨c, hc, rfl⟩ := hx
    rw [one_pre hk]
    exact beq_eq_false_iff_ne.2 (hn c hc)
theorem sign_one {s : ByteArray} {k q : Nat} (hk : k < s.size) (h : NoTwo s k) (hn : ∀ c ∈ ones.take q, c ≠ s[k]) {c : UInt8} (hc : ones[q]? = some c) (he : c = s[k]) : [c] = signText (s.data.toList.drop k) := by
  have hs : Lx.signs[5 + q]? = some [c] := by
    rw [signs_eq, List.getElem?_append_right (by rw [twos_len]; omega), twos_len, show 5 + q - 5 = q from by omega, List.getElem?_map, hc]; rfl
  have := signAt_first hs (noTwo_take hk h hn) (by rw [one_pre hk]; exact beq_iff_eq.2 he)
  rw [signText, this]; rfl
theorem sign_no {s : ByteArray} {k : Nat} (hk : k < s.size) (h : NoTwo s k) (hn : ∀ c ∈ ones.take 18, c ≠ s[k]) : ([] : List UInt8) = signText (s.data.toList.drop k) := by
  have := noTwo_take hk h hn
  rw [signText, signAt_none (fun g hg => this g (by rw [List.take_of_length_le (by rw [signs_len]; omega)]; exact hg))]; rfl
theorem ones_step {g c : UInt8} {q : Nat} (hg : ones[q]? = some g) (hn : ∀ x ∈ ones.take q, x ≠ c) (hp : g ≠ c) : ∀ x ∈ ones.take (q + 1), x ≠ c := by
  intro x hx
  rw [List.take_add_one, hg] at hx
  simp only [Option.toList, List.mem_append, List.mem_singleton] at hx
  rcases hx with hx | rfl
  · exact hn x hx
  · exact hp

set_option maxRecDepth 8000 in
set_option maxHeartbeats 2000000 in
theorem refSign_any (s : ByteArray) (hs : s.size ≤ 6000) (a : Int) (k : Nat) (ha : a = k) (hk : k < s.size) (w : World) :
    Calls Tryd.prog 37 #[.string s, .int .i64 a] w fun e w' => e = .returned (.string (bs (signText (s.data.toList.drop k)))) ∧ Below w.heap.size w w' := by
  subst ha
  have hT := hasTwos_new w
  have hb0 : Below w.heap.size w (w.alloc (.cells #[.string ⟨#[60, 61]⟩, .string ⟨#[61, 61]⟩, .string ⟨#[33, 61]⟩, .string ⟨#[38, 38]⟩, .string ⟨#[124, 124]⟩] 9)) := (Below.refl _ _).alloc (Nat.le_refl _) _
  have HT := Lib.hid hT
  have HB := Lib.hid hb0
  clear hT hb0
  by_cases h2 : k + 2 ≤ s.size
  · have h3 : (k : Int) + 2 ≤ (s.size : Int) := by omega
    have h4 : (2 : Int) ≤ (s.size : Int) - (k : Int) := by omega
    go_enter Tryd.func37, Tryd.ntmps37
    go_wp2
    go_loopw [6] (fun i wr => ∃ j : Nat, j ≤ 5 ∧ i = .int .i64 j ∧ (∀ x ∈ twos.take j, x.isPrefixOf (s.data.toList.drop k) = false) ∧ HasTwos w.heap.size wr ∧ Below w.heap.size w wr) (fun i _ => 5 - (intOf i).toNat)
    case atStart => exact ⟨0, by omega, rfl, by simp, HT.out, HB.out⟩
    case round =>
      obtain ⟨j, hj, rfl, hn, hT, hb⟩ := hrel
      have HN := Lib.hid hn
      have HT2 := Lib.hid hT
      clear hn hT
      by_cases hlt : j < 5
      · obtain ⟨g, hg⟩ : ∃ g, twos[j]? = some g := ⟨_, List.getElem?_eq_getElem (by exact hlt)⟩
        have hc := HT2.out j g hg
        have hx := two_pre s k h2 g (two_len g (List.mem_of_getElem? hg))
        have hj5 : (j : Int) < 5 := by omega
        have w1 : IntKind.i64.wrap ((s.size : Int) - (k : Int)) = (s.size : Int) - (k : Int) := IntWalk.i64_in _ (by omega)
        have w2 : IntKind.i64.wrap ((k : Int) + 2) = (k : Int) + 2 := IntWalk.i64_in _ (by omega)
        have n2 : ((k : Int) + 2).toNat = k + 2 := by omega
        have hd : decide ((2 : Int) ≤ (s.size : Int) - (k : Int)) = true := by simpa using h4
        cases hp : g.isPrefixOf (s.data.toList.drop k)
        · rw [hp] at hx
          have HP := Lib.hid hp
          have HG := Lib.hid hg
          clear hp hg
          go_wp2
          go_quiet (fail)
          clear w1 w2 n2 hd hx
          go_wp2
          go_roundw
          case rel => exact ⟨j + 1, by omega, by go_num, pre_step HG.out HN.out HP.out, HT2.out, below_drawn hb _⟩
          case measure => simp [intOf]; omega
        · rw [hp] at hx
          have HP := Lib.hid hp
          have HG := Lib.hid hg
          clear hp hg
          go_wp2
          go_quiet (fail)
          clear w1 w2 n2 hd hx
          go_wp2
          go_ret
          exact ⟨congrArg (fun l => Ending.returned (.string (bs l))) (sign_two HG.out HN.out HP.out), below_drawn hb _⟩
      · have HNT : Hid (NoTwo s k) := fun x hx => HN.out x (by rw [List.take_of_length_le (by show 5 ≤ j; omega)]; exact hx)
        clear HN
        go_wp2
        go_loopw [8] (fun i wx => ∃ j : Nat, j ≤ 18 ∧ i = .int .i64 j ∧ (∀ c ∈ ones.take j, c ≠ s[k]) ∧ Below w.heap.size w wx) (fun i _ => 18 - (intOf i).toNat)
        case atStart => exact ⟨0, by omega, rfl, by simp, hb⟩
        case round =>
          obtain ⟨q, hq, rfl, hn, hbx⟩ := hrel
          have HN := Lib.hid hn
          clear hn
          by_cases hlq : q < 18
          · obtain ⟨c, hc⟩ : ∃ c, ones[q]? = some c := ⟨_, List.getElem?_eq_getElem (by exact hlq)⟩
            have hq18 : (q : Int) < 18 := by omega
            have hk0 : (k : Int) < (s.size : Int) := by omega
            have hqs : q < ({ data := #[123, 125, 40, 41, 91, 93, 59, 58, 44, 46, 61, 43, 45, 42, 47, 37, 60, 33] } : ByteArray).size := by rw [ones_size]; exact hlq
            have hcc := ones_at hc hqs
            have h5 : (q : Int) + 1 ≤ 18 := by omega
            by_cases he : c = s[k]
            · have hx : ((s[k].toNat : Int) == ((({ data := #[123, 125, 40, 41, 91, 93, 59, 58, 44, 46, 61, 43, 45, 42, 47, 37, 60, 33] } : ByteArray)[q]'hqs).toNat : Int)) = true := by rw [hcc, he]; exact beq_iff_eq.2 rfl
              have HE := Lib.hid he
              have HC := Lib.hid hc
              clear hcc he hc
              go_wp2
              go_quiet (fail)
              go_wp2
              go_ret
              refine ⟨?_, below_drawn hbx _⟩
              show Ending.returned (.string (({ data := #[123, 125, 40, 41, 91, 93, 59, 58, 44, 46, 61, 43, 45, 42, 47, 37, 60, 33] } : ByteArray).extract q (q + 1))) = _
              rw [ones_cut HC.out]
              exact congrArg (fun l => Ending.returned (.string (bs l))) (sign_one hk HNT.out HN.out HC.out HE.out)
            · have hx : ((s[k].toNat : Int) == ((({ data := #[123, 125, 40, 41, 91, 93, 59, 58, 44, 46, 61, 43, 45, 42, 47, 37, 60, 33] } : ByteArray)[q]'hqs).toNat : Int)) = false := by
                rw [hcc]
                exact beq_eq_false_iff_ne.2 (fun h => he (UInt8.toNat_inj.1 (by omega)))
              have HE := Lib.hid he
              have HC := Lib.hid hc
              clear hcc he hc
              go_wp2
              go_quiet (fail)
              go_wp2
              go_roundw
              case rel => exact ⟨q + 1, by omega, by go_num, ones_step HC.out HN.out HE.out, below_drawn hbx _⟩
              case measure => simp [intOf]; omega
          · obtain rfl : q = 18 := by omega
            go_wp2
            go_ret
            exact ⟨congrArg (fun l => Ending.returned (.string (bs l))) (sign_no hk HNT.out HN.out), hbx⟩
  · have h4 : (s.size : Int) - (k : Int) < 2 := by omega
    have hnt := noTwo_short s k h2
    have HNT0 := Lib.hid hnt
    clear hnt h2
    go_enter Tryd.func37, Tryd.ntmps37
    go_wp2
    go_loopw [6] (fun i wr => ∃ j : Nat, j ≤ 5 ∧ i = .int .i64 j ∧ (∀ x ∈ twos.take j, x.isPrefixOf (s.data.toList.drop k) = false) ∧ HasTwos w.heap.size wr ∧ Below w.heap.size w wr) (fun i _ => 5 - (intOf i).toNat)
    case atStart => exact ⟨0, by omega, rfl, by simp, HT.out, HB.out⟩
    case round =>
      obtain ⟨j, hj, rfl, hn, hT, hb⟩ := hrel
      have HN := Lib.hid hn
      have HT2 := Lib.hid hT
      clear hn hT
      by_cases hlt : j < 5
      · have hj5 : (j : Int) < 5 := by omega
        have w1 : IntKind.i64.wrap ((s.size : Int) - (k : Int)) = (s.size : Int) - (k : Int) := IntWalk.i64_in _ (by omega)
        have hd : decide ((2 : Int) ≤ (s.size : Int) - (k : Int)) = false := by simpa using h4
        go_wp2
        go_quiet (fail)
        clear w1 hd
        go_wp2
        go_roundw
        case rel => exact ⟨j + 1, by omega, by go_num, fun x hx => HNT0.out x (List.mem_of_mem_take hx), HT2.out, below_drawn hb _⟩
        case measure => simp [intOf]; omega
      · have HNT := HNT0
        clear HN
        go_wp2
        go_loopw [8] (fun i wx => ∃ j : Nat, j ≤ 18 ∧ i = .int .i64 j ∧ (∀ c ∈ ones.take j, c ≠ s[k]) ∧ Below w.heap.size w wx) (fun i _ => 18 - (intOf i).toNat)
        case atStart => exact ⟨0, by omega, rfl, by simp, hb⟩
        case round =>
          obtain ⟨q, hq, rfl, hn, hbx⟩ := hrel
          have HN := Lib.hid hn
          clear hn
          by_cases hlq : q < 18
          · obtain ⟨c, hc⟩ : ∃ c, ones[q]? = some c := ⟨_, List.getElem?_eq_getElem (by exact hlq)⟩
            have hq18 : (q : Int) < 18 := by omega
            have hk0 : (k : Int) < (s.size : Int) := by omega
            have hqs : q < ({ data := #[123, 125, 40, 41, 91, 93, 59, 58, 44, 46, 61, 43, 45, 42, 47, 37, 60, 33] } : ByteArray).size := by rw [ones_size]; exact hlq
            have hcc := ones_at hc hqs
            have h5 : (q : Int) + 1 ≤ 18 := by omega
            by_cases he : c = s[k]
            · have hx : ((s[k].toNat : Int) == ((({ data := #[123, 125, 40, 41, 91, 93, 59, 58, 44, 46, 61, 43, 45, 42, 47, 37, 60, 33] } : ByteArray)[q]'hqs).toNat : Int)) = true := by rw [hcc, he]; exact beq_iff_eq.2 rfl
              have HE := Lib.hid he
              have HC := Lib.hid hc
              clear hcc he hc
              go_wp2
              go_quiet (fail)
              go_wp2
              go_ret
              refine ⟨?_, below_drawn hbx _⟩
              show Ending.returned (.string (({ data := #[123, 125, 40, 41, 91, 93, 59, 58, 44, 46, 61, 43, 45, 42, 47, 37, 60, 33] } : ByteArray).extract q (q + 1))) = _
              rw [ones_cut HC.out]
              exact congrArg (fun l => Ending.returned (.string (bs l))) (sign_one hk HNT.out HN.out HC.out HE.out)
            · have hx : ((s[k].toNat : Int) == ((({ data := #[123, 125, 40, 41, 91, 93, 59, 58, 44, 46, 61, 43, 45, 42, 47, 37, 60, 33] } : ByteArray)[q]'hqs).toNat : Int)) = false := by
                rw [hcc]
                exact beq_eq_false_iff_ne.2 (fun h => he (UInt8.toNat_inj.1 (by omega)))
              have HE := Lib.hid he
              have HC := Lib.hid hc
              clear hcc he hc
              go_wp2
              go_quiet (fail)
              go_wp2
              go_roundw
              case rel => exact ⟨q + 1, by omega, by go_num, ones_step HC.out HN.out HE.out, below_drawn hbx _⟩
              case measure => simp [intOf]; omega
          · obtain rfl : q = 18 := by omega
            go_wp2
            go_ret
            exact ⟨congrArg (fun l => Ending.returned (.string (bs l))) (sign_no hk HNT.out HN.out), hbx⟩
end Go.Proofs.YtnadaedibicaaaaDoor.Ln

namespace Go.Proofs.YtnadaedibicaaaaDoor.Ln
open Go.RowKit

/-- What one answers. -/
def oneV (k : Nat) : Option (Nat × List UInt8 × Nat × Nat) → Value
  | none => .tuple #[.agg #[.int .i64 0, .string ⟨#[]⟩, .int .i64 0, .int .i64 0], .int .i64 0]
  | some (kind, text, num, m) => .tuple #[.agg #[.int .i64 kind, .string (bs text), .int .i64 num, .int .i64 k], .int .i64 m]
theorem oneV_none (k : Nat) : oneV k none = .tuple #[.agg #[.int .i64 0, .string ⟨#[]⟩, .int .i64 0, .int .i64 0], .int .i64 0] := rfl
theorem oneV_some (k kind num m : Nat) (text : List UInt8) : oneV k (some (kind, text, num, m)) = .tuple #[.agg #[.int .i64 kind, .string (bs text), .int .i64 num, .int .i64 k], .int .i64 m] := rfl
theorem ret_oneN {k : Nat} : Ending.returned (.tuple #[.agg #[.int .i64 0, .string ⟨#[]⟩, .int .i64 0, .int .i64 0], .int .i64 0]) = .returned (oneV k none) := rfl
theorem ret_one {k kind num m : Nat} {text : List UInt8} {t : ByteArray} {E : Int} (ht : t = bs text) (h : E = m) : Ending.returned (.tuple #[.agg #[.int .i64 kind, .string t, .int .i64 num, .int .i64 k], .int .i64 E]) = .returned (oneV k (some (kind, text, num, m))) := by rw [h, ht]; rfl

theorem box_go {w1 w2 : World} {B : Nat} {o : Obj} (h : w1.heap[B]? = some o) (hb : Below w1.heap.size w1 w2) : w2.heap[B]? = some o := (hb.block _ (heap_lt h)).trans h

set_option maxRecDepth 8000 in
set_option maxHeartbeats 2000000 in
theorem refOneWord_any (s : ByteArray) (hs : s.size ≤ 6000) (k : Nat) (hk : k < s.size) (hc : Lx.letB (s[k].toNat : Int) = true) (w : World) :
    Calls Tryd.prog 18 #[.string s, .int .i64 k] w fun e w' => e = .returned (oneV k (Lx.oneWord (s.data.toList.drop k))) ∧ Below w.heap.size w w' := by
  have hk2 : k ≤ s.size := by omega
  have hmax := small_max hs
  have hl := refLetter_any (s[k].toNat : Int)
  rw [hc] at hl
  have hb := run_bound Lx.alnB s k hk2
  generalize hm : Lx.runN Lx.alnB (s.data.toList.drop k) = m at hb
  have hx := ext_bs s k m (k + m) rfl
  have hls := ext_list s k m
  have hone : Lx.oneWord (s.data.toList.drop k) = if Lx.isWord ((s.data.toList.drop k).take m) then some (3, (s.data.toList.drop k).take m, 0, m) else if Lx.isName ((s.data.toList.drop k).take m) then some (1, (s.data.toList.drop k).take m, 0, m) else none := by rw [Lx.oneWord, hm]
  have hw := refWord_any (s.extract k (k + m))
  have hnm := refName_any (s.extract k (k + m)) (ext_max k (k + m) hs)
  rw [hls] at hw hnm
  have h3 : (k : Int) + (m : Int) ≤ (s.size : Int) := by omega
  have HX := Lib.hid hx
  have HM := Lib.hid hm
  have HL := Lib.hid hl
  cases hcw : Lx.isWord ((s.data.toList.drop k).take m)
  · rw [hcw] at hw hone
    rw [if_neg (by decide)] at hone
    have HW := Lib.hid hw
    cases hcn : Lx.isName ((s.data.toList.drop k).take m)
    · rw [hcn] at hnm hone
      rw [if_neg (by decide)] at hone
      have HNM := Lib.hid hnm
      rw [hone]
      clear hone hw hnm hx hls hm hcw hcn hl hc
      go_enter Tryd.func18, Tryd.ntmps18
      go_wp2_with (first
        | (go_at_call 31; refine (HL.out _).mono ?_; rintro e w' ⟨rfl, rfl⟩)
        | (go_at_call 32; refine (refRunA_any s hmax _ k m rfl hk2 HM.out _).mono ?_; rintro e w' ⟨rfl, rfl⟩)
        | (go_at_call 33; refine (HW.out _).mono ?_; rintro e w1 ⟨rfl, hb1⟩)
        | (go_at_call 34; refine (HNM.out _).mono ?_; rintro e w2 ⟨rfl, hb2⟩; obtain ⟨⟨c0, c1, c2, c3⟩, f0, f1, f2, f3⟩ := box4 (box_go (box_at hb1) hb2)))
      refine bodyPost_ret (v := .tuple #[.agg #[.int .i64 0, .string ⟨#[]⟩, .int .i64 0, .int .i64 0], .int .i64 0]) (by simp [results, Tryd.results18, go_sem, c0, c1, c2, c3]) rfl ⟨ret_oneN, ?_⟩
      exact ((((below_go (below_box hb1) hb2).setCell (Nat.le_refl _) _).setCell (Nat.le_refl _) _).setCell (Nat.le_refl _) _).setCell (Nat.le_refl _) _
    · rw [hcn] at hnm hone
      rw [if_pos rfl] at hone
      have HNM := Lib.hid hnm
      rw [hone]
      clear hone hw hnm hx hls hm hcw hcn hl hc
      go_enter Tryd.func18, Tryd.ntmps18
      go_wp2_with (first
        | (go_at_call 31; refine (HL.out _).mono ?_; rintro e w' ⟨rfl, rfl⟩)
        | (go_at_call 32; refine (refRunA_any s hmax _ k m rfl hk2 HM.out _).mono ?_; rintro e w' ⟨rfl, rfl⟩)
        | (go_at_call 33; refine (HW.out _).mono ?_; rintro e w1 ⟨rfl, hb1⟩)
        | (go_at_call 34; refine (HNM.out _).mono ?_; rintro e w2 ⟨rfl, hb2⟩; obtain ⟨⟨c0, c1, c2, c3⟩, f0, f1, f2, f3⟩ := box4 (box_go (box_at hb1) hb2)))
      refine bodyPost_ret (v := .tuple #[.agg #[.int .i64 1, .string (s.extract k (k + m)), .int .i64 0, .int .i64 k], .int .i64 m]) (by simp [results, Tryd.results18, go_sem, c0, c1, c2, c3]) rfl ⟨ret_one HX.out rfl, ?_⟩
      exact ((((below_go (below_box hb1) hb2).setCell (Nat.le_refl _) _).setCell (Nat.le_refl _) _).setCell (Nat.le_refl _) _).setCell (Nat.le_refl _) _
  · rw [hcw] at hw hone
    rw [if_pos rfl] at hone
    have HW := Lib.hid hw
    rw [hone]
    clear hone hw hnm hx hls hm hcw hl hc
    go_enter Tryd.func18, Tryd.ntmps18
    go_wp2_with (first
      | (go_at_call 31; refine (HL.out _).mono ?_; rintro e w' ⟨rfl, rfl⟩)
      | (go_at_call 32; refine (refRunA_any s hmax _ k m rfl hk2 HM.out _).mono ?_; rintro e w' ⟨rfl, rfl⟩)
      | (go_at_call 33; refine (HW.out _).mono ?_; rintro e w1 ⟨rfl, hb1⟩; obtain ⟨⟨c0, c1, c2, c3⟩, f0, f1, f2, f3⟩ := box4 (box_at hb1)))
    refine bodyPost_ret (v := .tuple #[.agg #[.int .i64 3, .string (s.extract k (k + m)), .int .i64 0, .int .i64 k], .int .i64 m]) (by simp [results, Tryd.results18, go_sem, c0, c1, c2, c3]) rfl ⟨ret_one HX.out rfl, ?_⟩
    exact ((((below_box hb1).setCell (Nat.le_refl _) _).setCell (Nat.le_refl _) _).setCell (Nat.le_refl _) _).setCell (Nat.le_refl _) _

theorem signText_none {r : List UInt8} (h : Lx.signAt r = none) : signText r = [] := by rw [signText, h]; rfl
theorem signText_some {r g : List UInt8} (h : Lx.signAt r = some g) : signText r = g := by rw [signText, h]; rfl

set_option maxRecDepth 8000 in
set_option maxHeartbeats 2000000 in
theorem refOneSign_any (s : ByteArray) (hs : s.size ≤ 6000) (k : Nat) (hk : k < s.size) (hc : Lx.letB (s[k].toNat : Int) = false) (hd : Lx.digB (s[k].toNat : Int) = false) (w : World) :
    Calls Tryd.prog 18 #[.string s, .int .i64 k] w fun e w' => e = .returned (oneV k (Lx.oneSign (s.data.toList.drop k))) ∧ Below w.heap.size w w' := by
  have hl := refLetter_any (s[k].toNat : Int)
  have hg := refDigit_any (s[k].toNat : Int)
  rw [hc] at hl
  rw [hd] at hg
  have hsg := refSign_any s hs k k rfl hk
  have HL := Lib.hid hl
  have HD := Lib.hid hg
  cases hat : Lx.signAt (s.data.toList.drop k)
  · have hone : Lx.oneSign (s.data.toList.drop k) = none := by rw [Lx.oneSign, hat]
    rw [signText_none hat, show bs [] = ⟨#[]⟩ from rfl] at hsg
    rw [hone]
    have HS := Lib.hid hsg
    clear hone hsg hl hg hc hd hat
    go_enter Tryd.func18, Tryd.ntmps18
    go_wp2_with (first
      | (go_at_call 31; refine (HL.out _).mono ?_; rintro e w' ⟨rfl, rfl⟩)
      | (go_at_call 35; refine (HD.out _).mono ?_; rintro e w' ⟨rfl, rfl⟩)
      | (go_at_call 37; refine (HS.out _).mono ?_; rintro e w1 ⟨rfl, hb1⟩; obtain ⟨⟨c0, c1, c2, c3⟩, f0, f1, f2, f3⟩ := box4 (box_at hb1)))
    refine bodyPost_ret (v := .tuple #[.agg #[.int .i64 0, .string ⟨#[]⟩, .int .i64 0, .int .i64 0], .int .i64 0]) (by simp [results, Tryd.results18, go_sem, c0, c1, c2, c3]) rfl ⟨ret_oneN, ?_⟩
    exact ((((below_box hb1).setCell (Nat.le_refl _) _).setCell (Nat.le_refl _) _).setCell (Nat.le_refl _) _).setCell (Nat.le_refl _) _
  · rename_i g
    have hone : Lx.oneSign (s.data.toList.drop k) = some (4, g, 0, g.length) := by rw [Lx.oneSign, hat]
    have hpos := Lx.signAt_pos hat
    rw [signText_some hat] at hsg
    rw [hone]
    have e1 : ((bs g).toList == []) = false := ne_beq _ hpos
    have e2 : (bs g).toList.isEmpty = false := ne_empty _ hpos
    have HS := Lib.hid hsg
    clear hone hsg hl hg hc hd hat
    go_enter Tryd.func18, Tryd.ntmps18
    go_wp2_with (first
      | (go_at_call 31; refine (HL.out _).mono ?_; rintro e w' ⟨rfl, rfl⟩)
      | (go_at_call 35; refine (HD.out _).mono ?_; rintro e w' ⟨rfl, rfl⟩)
      | (go_at_call 37; refine (HS.out _).mono ?_; rintro e w1 ⟨rfl, hb1⟩; obtain ⟨⟨c0, c1, c2, c3⟩, f0, f1, f2, f3⟩ := box4 (box_at hb1)))
    refine bodyPost_ret (v := .tuple #[.agg #[.int .i64 4, .string (bs g), .int .i64 0, .int .i64 k], .int .i64 (bs g).size]) (by simp [results, Tryd.results18, go_sem, c0, c1, c2, c3]) rfl ⟨ret_one rfl rfl, ?_⟩
    exact ((((below_box hb1).setCell (Nat.le_refl _) _).setCell (Nat.le_refl _) _).setCell (Nat.le_refl _) _).setCell (Nat.le_refl _) _
/-- The tests ahead of a number, as the answer asks them. -/
structure RefTests (s : ByteArray) (k m : Nat) (hk : k < s.size) (padded runsOn : Bool) : Prop where
  pad : (((s[k].toNat : Int) == 48) = true ∧ 1 < m ∧ padded = true) ∨ (((s[k].toNat : Int) == 48) = false ∧ 1 < m ∧ padded = false) ∨ (m ≤ 1 ∧ padded = false)
  run : (∃ hn : k + m < s.size, (∀ w, Calls Tryd.prog 31 #[.int .u8 (s[k + m].toNat : Int)] w fun e w' => e = .returned (.bool runsOn) ∧ w = w')) ∨ (s.size ≤ k + m ∧ runsOn = false)
theorem refTests (s : ByteArray) (k m : Nat) (hk : k < s.size) : ∃ padded runsOn, RefTests s k m hk padded runsOn ∧ padded = decide (s[k] = 48 ∧ 1 < m) ∧ runsOn = Lx.nextLet (s.data.toList.drop (k + m)) := by
  refine ⟨_, _, ⟨?_, ?_⟩, rfl, rfl⟩
  · by_cases h2 : 1 < m
    · cases h : ((s[k].toNat : Int) == 48)
      · exact Or.inr (Or.inl ⟨rfl, h2, decide_eq_false fun ⟨h2, _⟩ => byte48n h h2⟩)
      · exact Or.inl ⟨rfl, h2, decide_eq_true ⟨byte48 h, h2⟩⟩
    · exact Or.inr (Or.inr ⟨by omega, decide_eq_false fun ⟨_, h3⟩ => h2 h3⟩)
  · by_cases h : k + m < s.size
    · refine Or.inl ⟨h, fun w => ?_⟩
      rw [nextLet_at h]
      exact refLetter_any _ w
    · exact Or.inr ⟨by omega, nextLet_out (by omega)⟩

/-- What the answer's number comes to. -/
def refNumV (padded runsOn : Bool) (m V : Nat) : Option (Nat × List UInt8 × Nat × Nat) := if V ≤ 9223372036854775807 ∧ padded = false ∧ runsOn = false then some (2, [], V, m) else none

set_option maxRecDepth 8000 in
set_option maxHeartbeats 1000000 in
theorem refOneNum_at (s : ByteArray) (hs : s.size ≤ 6000) (k m : Nat) (hk : k < s.size) (hm : Lx.runN Lx.digB (s.data.toList.drop k) = m) (hc : Lx.letB (s[k].toNat : Int) = false) (hd : Lx.digB (s[k].toNat : Int) = true)
    (padded runsOn : Bool) (ht : RefTests s k m hk padded runsOn) (V : Nat) (hV : Lx.valN 0 (s.extract k (k + m)).data.toList = V) (w : World) :
    Calls Tryd.prog 18 #[.string s, .int .i64 k] w fun e w' => e = .returned (oneV k (refNumV padded runsOn m V)) ∧ Below w.heap.size w w' := by
  have hk2 : k ≤ s.size := by omega
  have hmax := small_max hs
  have hl := refLetter_any (s[k].toNat : Int)
  have hg := refDigit_any (s[k].toNat : Int)
  rw [hc] at hl
  rw [hd] at hg
  have hb := run_bound Lx.digB s k hk2
  rw [hm] at hb
  have h3 : (k : Int) + (m : Int) ≤ (s.size : Int) := by omega
  have hall : ∀ c ∈ (s.extract k (k + m)).data.toList, Lx.digB (c.toNat : Int) = true := by
    rw [ext_list, ← hm]
    exact Lx.runN_all _ _
  have hw := whole_any (s.extract k (k + m)) (ext_max k (k + m) hs) hall V hV
  have HL := Lib.hid hl
  have HD := Lib.hid hg
  have HM := Lib.hid hm
  obtain ⟨hp, hr⟩ := ht
  clear hall hV hl hg hm hc hd
  by_cases hle : V ≤ 9223372036854775807
  · rw [wholeV_yes hle, wholeB_yes hle] at hw
    have HW := Lib.hid hw
    clear hw
    rcases hp with ⟨p1, p2, rfl⟩ | ⟨p1, p2, rfl⟩ | ⟨p1, rfl⟩
    · rw [show refNumV true runsOn m V = none from if_neg (fun h => by cases h.2.1)]
      have p3 : (1 : Int) < (m : Int) := by omega
      clear hr
      go_enter Tryd.func18, Tryd.ntmps18
      go_wp2_with fail
      refine (HL.out _).mono ?_
      rintro e w' ⟨rfl, rfl⟩
      go_wp2_with (first
        | (go_at_call 35; refine (HD.out _).mono ?_; rintro e w' ⟨rfl, rfl⟩)
        | (go_at_call 32; refine (refRunD_any s hmax _ k m rfl hk2 HM.out _).mono ?_; rintro e w' ⟨rfl, rfl⟩)
        | (go_at_call 36; refine (HW.out _).mono ?_; rintro e w' ⟨rfl, rfl⟩))
      exact bodyPost_ret (v := .tuple #[.agg #[.int .i64 0, .string ⟨#[]⟩, .int .i64 0, .int .i64 0], .int .i64 0]) (by simp [results, Tryd.results18, go_sem]) rfl ⟨ret_oneN, (Below.refl _ _).alloc (Nat.le_refl _) _⟩
    all_goals
      rcases hr with ⟨r1, r2⟩ | ⟨r1, rfl⟩
      · have r3 : (k : Int) + (m : Int) < (s.size : Int) := by omega
        cases runsOn
        · rw [show refNumV false false m V = some (2, [], V, m) from if_pos ⟨hle, rfl, rfl⟩]
          have HR := Lib.hid r2
          clear r2
          go_enter Tryd.func18, Tryd.ntmps18
          go_wp2_with fail
          refine (HL.out _).mono ?_
          rintro e w' ⟨rfl, rfl⟩
          go_wp2_with (first
            | (go_at_call 35; refine (HD.out _).mono ?_; rintro e w' ⟨rfl, rfl⟩)
            | (go_at_call 32; refine (refRunD_any s hmax _ k m rfl hk2 HM.out _).mono ?_; rintro e w' ⟨rfl, rfl⟩)
            | (go_at_call 36; refine (HW.out _).mono ?_; rintro e w' ⟨rfl, rfl⟩)
            | (go_at_call 31; refine (HR.out _).mono ?_; rintro e w' ⟨rfl, rfl⟩))
          exact bodyPost_ret (v := .tuple #[.agg #[.int .i64 2, .string ⟨#[]⟩, .int .i64 V, .int .i64 k], .int .i64 m]) (by simp [results, Tryd.results18, go_sem]) rfl ⟨ret_one rfl rfl, (Below.refl _ _).alloc (Nat.le_refl _) _⟩
        · rw [show refNumV false true m V = none from if_neg (fun h => by cases h.2.2)]
          have HR := Lib.hid r2
          clear r2
          go_enter Tryd.func18, Tryd.ntmps18
          go_wp2_with fail
          refine (HL.out _).mono ?_
          rintro e w' ⟨rfl, rfl⟩
          go_wp2_with (first
            | (go_at_call 35; refine (HD.out _).mono ?_; rintro e w' ⟨rfl, rfl⟩)
            | (go_at_call 32; refine (refRunD_any s hmax _ k m rfl hk2 HM.out _).mono ?_; rintro e w' ⟨rfl, rfl⟩)
            | (go_at_call 36; refine (HW.out _).mono ?_; rintro e w' ⟨rfl, rfl⟩)
            | (go_at_call 31; refine (HR.out _).mono ?_; rintro e w' ⟨rfl, rfl⟩))
          exact bodyPost_ret (v := .tuple #[.agg #[.int .i64 0, .string ⟨#[]⟩, .int .i64 0, .int .i64 0], .int .i64 0]) (by simp [results, Tryd.results18, go_sem]) rfl ⟨ret_oneN, (Below.refl _ _).alloc (Nat.le_refl _) _⟩
      · have r3 : (s.size : Int) ≤ (k : Int) + (m : Int) := by omega
        rw [show refNumV false false m V = some (2, [], V, m) from if_pos ⟨hle, rfl, rfl⟩]
        go_enter Tryd.func18, Tryd.ntmps18
        go_wp2_with fail
        refine (HL.out _).mono ?_
        rintro e w' ⟨rfl, rfl⟩
        go_wp2_with (first
          | (go_at_call 35; refine (HD.out _).mono ?_; rintro e w' ⟨rfl, rfl⟩)
          | (go_at_call 32; refine (refRunD_any s hmax _ k m rfl hk2 HM.out _).mono ?_; rintro e w' ⟨rfl, rfl⟩)
          | (go_at_call 36; refine (HW.out _).mono ?_; rintro e w' ⟨rfl, rfl⟩))
        exact bodyPost_ret (v := .tuple #[.agg #[.int .i64 2, .string ⟨#[]⟩, .int .i64 V, .int .i64 k], .int .i64 m]) (by simp [results, Tryd.results18, go_sem]) rfl ⟨ret_one rfl rfl, (Below.refl _ _).alloc (Nat.le_refl _) _⟩
  · rw [wholeV_no hle, wholeB_no hle] at hw
    have HW := Lib.hid hw
    rw [show refNumV padded runsOn m V = none from if_neg (fun h => hle h.1)]
    clear hw hp hr
    go_enter Tryd.func18, Tryd.ntmps18
    go_wp2_with fail
    refine (HL.out _).mono ?_
    rintro e w' ⟨rfl, rfl⟩
    go_wp2_with (first
      | (go_at_call 35; refine (HD.out _).mono ?_; rintro e w' ⟨rfl, rfl⟩)
      | (go_at_call 32; refine (refRunD_any s hmax _ k m rfl hk2 HM.out _).mono ?_; rintro e w' ⟨rfl, rfl⟩)
      | (go_at_call 36; refine (HW.out _).mono ?_; rintro e w' ⟨rfl, rfl⟩))
    exact bodyPost_ret (v := .tuple #[.agg #[.int .i64 0, .string ⟨#[]⟩, .int .i64 0, .int .i64 0], .int .i64 0]) (by simp [results, Tryd.results18, go_sem]) rfl ⟨ret_oneN, (Below.refl _ _).alloc (Nat.le_refl _) _⟩

theorem refOneNum_any (s : ByteArray) (hs : s.size ≤ 6000) (k : Nat) (hk : k < s.size) (hc : Lx.letB (s[k].toNat : Int) = false) (hd : Lx.digB (s[k].toNat : Int) = true) (w : World) :
    Calls Tryd.prog 18 #[.string s, .int .i64 k] w fun e w' => e = .returned (oneV k (Lx.oneNum (s.data.toList.drop k))) ∧ Below w.heap.size w w' := by
  obtain ⟨m, hm⟩ : ∃ m, Lx.runN Lx.digB (s.data.toList.drop k) = m := ⟨_, rfl⟩
  obtain ⟨V, hV⟩ : ∃ V, Lx.valN 0 ((s.data.toList.drop k).take m) = V := ⟨_, rfl⟩
  obtain ⟨padded, runsOn, ht, hp, hr⟩ := refTests s k m hk
  have hbad := numBad_at hk hm rfl hV
  rw [← hp, ← hr] at hbad
  have hone : Lx.oneNum (s.data.toList.drop k) = refNumV padded runsOn m V := by
    rw [Lx.oneNum, hm, hV, hbad, refNumV]
    by_cases hle : V ≤ 9223372036854775807
    · cases padded <;> cases runsOn
      · rw [if_neg (by simp; omega), if_pos ⟨hle, rfl, rfl⟩]
      · rw [if_pos (by simp), if_neg (by simp)]
      · rw [if_pos (by simp), if_neg (by simp)]
      · rw [if_pos (by simp), if_neg (by simp)]
    · rw [if_pos (by simp; omega), if_neg (fun h => hle h.1)]
  rw [hone]
  exact refOneNum_at s hs k m hk hm hc hd padded runsOn ht V (by rw [ext_list]; exact hV) w

theorem refOne_any (s : ByteArray) (hs : s.size ≤ 6000) (a : Int) (k : Nat) (ha : a = k) (hk : k < s.size) (w : World) :
    Calls Tryd.prog 18 #[.string s, .int .i64 a] w fun e w' => e = .returned (oneV k (Lx.one (s.data.toList.drop k))) ∧ Below w.heap.size w w' := by
  subst ha
  cases hcl : Lx.letB (s[k].toNat : Int)
  · cases hcd : Lx.digB (s[k].toNat : Int)
    · rw [one_sign_at hk hcl hcd]; exact refOneSign_any s hs k hk hcl hcd w
    · rw [one_num_at hk hcl hcd]; exact refOneNum_any s hs k hk hcl hcd w
  · rw [one_word_at hk hcl]; exact refOneWord_any s hs k hk hcl w
end Go.Proofs.YtnadaedibicaaaaDoor.Ln

namespace Go.Proofs.YtnadaedibicaaaaDoor.Ln
open Go.RowKit

set_option maxRecDepth 8000 in
set_option maxHeartbeats 2000000 in
theorem refTokens_any (s : ByteArray) (hs : s.size ≤ maxLen) (w : World) :
    Calls Tryd.prog 8 #[.string s] w (TokRes s.data.toList w) := by
  by_cases hlong : 6000 < s.size
  · have HL : Hid (6000 < s.data.toList.length) := by show _ < _; rw [len_of]; exact hlong
    go_enter Tryd.func8, Tryd.ntmps8
    go_wp2
    exact bodyPost_ret (v := .tuple #[.slice none 0 0, .agg #[.int .i64 4, .int .i64 0]]) (by simp [results, Tryd.results8, go_sem]) rfl (res_long HL.out ((Below.refl _ _).alloc (Nat.le_refl _) _))
  · have hsz : s.size ≤ 6000 := by omega
    have HL : Hid (s.data.toList.length ≤ 6000) := by show _ ≤ _; rw [len_of]; exact hsz
    obtain ⟨k0, hk0⟩ : ∃ k, Lx.skipS false s.data.toList = k := ⟨_, rfl⟩
    have hk0s : k0 ≤ s.size := by have := Lx.skipS_le s.data.toList false; rw [len_of] at this; omega
    have HK0 : Hid (0 + Lx.skipS false (s.data.toList.drop 0) = k0) := by show _ = _; rw [List.drop_zero, hk0]; omega
    have HS := Lib.hid (TokLoop.start (w := w) hk0)
    obtain ⟨i0, hi, hz0, hz1, hz2⟩ := info_parts infoTok
    clear hk0
    go_enter Tryd.func8, Tryd.ntmps8
    go_wp2_with (go_at_call 17; refine (refBlank_any s hs _ 0 k0 rfl (by omega) HK0.out _).mono ?_; rintro e w' ⟨rfl, rfl⟩)
    go_loopw [4, 5] (fun v i wr => ∃ (k : Nat) (ts : List Lx.Tk), k ≤ s.size ∧ i = .int .i64 k ∧ TokLoop s.data.toList w ts k v wr) (fun _ i _ => s.size - (intOf i).toNat)
    case atStart => exact ⟨k0, [], hk0s, rfl, HS.out⟩
    case round =>
      obtain ⟨k, ts, hk, rfl, hT⟩ := hrel
      have HT := Lib.hid hT
      clear hT
      by_cases hlt : k < s.size
      · have hscan := refOne_any s hsz k k rfl hlt wr
        cases hone : Lx.one (s.data.toList.drop k)
        · rw [hone, oneV_none] at hscan
          have HC := Lib.hid hscan
          have HO := Lib.hid hone
          clear hscan hone
          go_wp2_with (go_at_call 18; refine HC.out.mono ?_; rintro e w1 ⟨rfl, hb1⟩; obtain ⟨⟨d0, d1⟩, ⟨g0, g1⟩, hz⟩ := box2 ((hb1.block _ (heap_lt HT.out.blk)).trans HT.out.blk))
          refine bodyPost_ret (v := .tuple #[.slice none 0 0, .agg #[.int .i64 1, .int .i64 k]]) (by simp [results, Tryd.results8, go_sem, d0, d1, hz]) rfl (res_fault HL.out (Lx.come_fault HT.out.come (by rw [len_of]; exact hlt) HO.out) ?_)
          exact (((below_go HT.out.bel hb1).setCell (Nat.le_refl _) _).setCell (Nat.le_refl _) _).alloc (by simp [World.setCell]; omega) _
        · rename_i o
          obtain ⟨kind, text, num, m⟩ := o
          obtain ⟨p, hp⟩ : ∃ p, k + m = p := ⟨_, rfl⟩
          rw [hone, oneV_some] at hscan
          have hlen := (Lx.one_len hone).2
          have hlen0 := (Lx.one_len hone).1
          rw [List.length_drop, len_of] at hlen
          have hps : p ≤ s.size := by omega
          have hkp : k < p := by omega
          obtain ⟨q, hq⟩ : ∃ q, p + Lx.skipS false (s.data.toList.drop p) = q := ⟨_, rfl⟩
          have hqs : q ≤ s.size := by
            have := Lx.skipS_le (s.data.toList.drop p) false
            rw [List.length_drop, len_of] at this
            omega
          have hpq : p ≤ q := by omega
          have hpk : (k : Int) + (m : Int) ≤ (s.size : Int) := by omega
          have hm0 : ((m : Int) == 0) = false := beq_eq_false_iff_ne.2 (by omega)
          have hpi : (k : Int) + (m : Int) = (p : Int) := by omega
          have HPI := Lib.hid hpi
          have hfew := HT.out.few
          have HC := Lib.hid hscan
          have HO := Lib.hid hone
          have HP := Lib.hid hp
          have HQ := Lib.hid hq
          clear hscan hone hp hq hlen hlen0 hpi
          go_wp2_with (first
            | (go_at_call 18; refine HC.out.mono ?_; rintro e w1 ⟨rfl, hb1⟩; obtain ⟨⟨d0, d1⟩, ⟨g0, g1⟩, hz⟩ := box2 ((hb1.block _ (heap_lt HT.out.blk)).trans HT.out.blk))
            | (at_builtin; refine wpList_append_own _ rfl _ _ 22 rfl (w.heap.size + 1) 51 i0 _ 4 40 Tryd.underlying22 hi hz0 hz1 hz2 rfl (by decide) _ ts.length (cellsOf ts) rfl (((own_below HT.out.own hb1).alloc _).alloc _) ⟨w1.heap.size + 1, 0, none⟩ 1 1 (tokCells ⟨kind, text, num, k⟩) rfl rfl ?c1 ?c2 ?c3 ?c4 ?c5 ?_))
          case c1 => exact news4 _ _ _ _ _ _ _ (by simp)
          case c2 => exact tok_one _
          case c3 => unfold maxLen; omega
          case c4 => omega
          case c5 => simp; omega
          intro v' w2 hown' hgrow _
          have HT2 := Lib.hid (HT.out.next (by rw [len_of]; exact hlt) HO.out HP.out HQ.out hb1 hgrow hown')
          clear hown' hgrow
          go_wp2_with (go_at_call 17; refine (refBlank_any s hs _ p q HPI.out hps HQ.out _).mono ?_; rintro e w' ⟨rfl, rfl⟩)
          go_roundw
          case rel => exact ⟨q, _, hqs, rfl, HT2.out⟩
          case measure => simp [intOf]; omega
      · have hfew := HT.out.few
        have hzb := heap_lt HT.out.blk
        go_wp2_with (at_builtin; refine wpList_append_own _ rfl _ _ 22 rfl (w.heap.size + 1) 51 i0 _ 4 40 Tryd.underlying22 hi hz0 hz1 hz2 rfl (by decide) _ ts.length (cellsOf ts) rfl (HT.out.own.alloc _) ⟨wr.heap.size, 0, none⟩ 1 1 (tokCells ⟨0, [], 0, s.size⟩) rfl rfl ?e1 ?e2 ?e3 ?e4 ?e5 ?_)
        case e1 => exact news4 _ _ _ _ _ _ _ rfl
        case e2 => exact tok_one _
        case e3 => unfold maxLen; omega
        case e4 => omega
        case e5 => simp; omega
        intro v' w2 hown' hgrow _
        obtain ⟨⟨d0, d1⟩, ⟨g0, g1⟩, hz⟩ := box2 (HT.out.blk_last hgrow)
        have hbel := HT.out.bel_last hgrow
        obtain ⟨A, c, rfl, _⟩ := lies_of_own hown'
        have HO := Lib.hid hown'
        clear hown' hgrow
        go_wp2
        refine bodyPost_ret (v := .tuple #[.slice A (ts.length + 1 : Nat) c, .agg #[.int .i64 0, .int .i64 0]]) (by simp [results, Tryd.results8, go_sem, d0, d1]) rfl (res_ok HL.out (Lx.come_end HT.out.come (by rw [len_of]; omega)) ?_ rfl ?_)
        · exact (hbel.setCell (Nat.le_refl _) _).setCell (Nat.le_refl _) _
        · rw [len_of]
          exact lies_set2 HO.out _ _
end Go.Proofs.YtnadaedibicaaaaDoor.Ln

