/-
  The token in front, by its kinds (plain); the contract of lex.scanSign.
-/
import Derived.Test.YtconbldpomjgkaaDoorDigs
import Derived.Test.YtconbldpomjgkaaDoorLaidL
namespace Go.Proofs.YtconbldpomjgkaaDoor
namespace Lx
def oneWord (r : List UInt8) : Option (Nat × List UInt8 × Nat × Nat) :=
  if isWord (r.take (runN alnB r)) then some (3, r.take (runN alnB r), 0, runN alnB r)
  else if isName (r.take (runN alnB r)) then some (1, r.take (runN alnB r), 0, runN alnB r)
  else none
def oneNum (r : List UInt8) : Option (Nat × List UInt8 × Nat × Nat) :=
  if numBad r then none else some (2, [], valN 0 (r.take (runN digB r)), runN digB r)
def oneSign (r : List UInt8) : Option (Nat × List UInt8 × Nat × Nat) :=
  match signAt r with
  | none => none
  | some g => some (4, g, 0, g.length)
theorem one_word (c : UInt8) (r : List UInt8) (h : letB (c.toNat : Int) = true) : one (c :: r) = oneWord (c :: r) := by
  rw [one, if_pos h, oneWord]
theorem one_num (c : UInt8) (r : List UInt8) (h : letB (c.toNat : Int) = false) (h2 : digB (c.toNat : Int) = true) : one (c :: r) = oneNum (c :: r) := by
  rw [one, if_neg (by rw [h]; decide), if_pos h2, oneNum]
theorem one_sign (c : UInt8) (r : List UInt8) (h : letB (c.toNat : Int) = false) (h2 : digB (c.toNat : Int) = false) : one (c :: r) = oneSign (c :: r) := by
  rw [one, if_neg (by rw [h]; decide), if_neg (by rw [h2]; decide), oneSign]
  cases signAt (c :: r) <;> rfl
end Lx
open Go.RowKit

/-- What scan and its parts answer. -/
def scanV (k : Nat) : Option (Nat × List UInt8 × Nat × Nat) → Value
  | none => .tuple #[.agg #[.int .i64 0, .string ⟨#[]⟩, .int .i64 0, .int .i64 0], .int .i64 0, .bool false]
  | some (kind, text, num, m) => .tuple #[.agg #[.int .i64 kind, .string (bs text), .int .i64 num, .int .i64 k], .int .i64 (k + m : Nat), .bool true]

theorem info34 : (Tryd.prog.info? 58).map (·.size) = some signsV.size := by rw [signsV_size]; kernel_rfl

theorem infoS_some : ∃ i, Tryd.prog.info? 9 = some i ∧ i.size = 1 := by
  have h : (Tryd.prog.info? 9).map (·.size) = some 1 := by kernel_rfl
  cases hi : Tryd.prog.info? 9 with
  | none => rw [hi] at h; cases h
  | some i => rw [hi] at h; exact ⟨i, rfl, by simpa using h⟩

theorem index_texts {P : Program} (t e : TypeId) (n : Nat) (i : TypeInfo) (cs : Array Value) (j : Nat) (g : List UInt8) (ht : P.underlying t = some (.array n e)) (he : P.underlying e = some .string) (hi : P.info? e = some i) (hs : i.size = 1) (hj : j < n) (hc : cs[j]? = some (.string (bs g))) (w : World) :
    (Instr.index t (.agg cs) (.int .i64 (j : Int))).run P w = .ok (.string (bs g)) w := by
  have h1 : (0 : Int) ≤ (j : Int) ∧ (j : Int) < (n : Int) := ⟨by omega, by omega⟩
  simp [Instr.index, asIntOf, run_underlying ht, h1, sizeOf, typeInfo, hi, hs, part, hc, run_isAgg_plain he rfl]
  intro h; omega

theorem ret_scan {k m kind num : Nat} {text : List UInt8} {E : Int} (h : E = ((k + m : Nat) : Int)) :
    Ending.returned (.tuple #[.agg #[.int .i64 kind, .string (bs text), .int .i64 num, .int .i64 k], .int .i64 E, .bool true]) = .returned (scanV k (some (kind, text, num, m))) := by rw [h]; rfl
theorem ret_none {k : Nat} : Ending.returned (.tuple #[.agg #[.int .i64 0, .string ⟨#[]⟩, .int .i64 0, .int .i64 0], .int .i64 0, .bool false]) = .returned (scanV k none) := rfl

theorem signs_len : Lx.signs.length = 23 := by decide
theorem signAt_none {r : List UInt8} (h : ∀ g ∈ Lx.signs, g.isPrefixOf r = false) : Lx.signAt r = none := by
  rw [Lx.signAt, List.find?_eq_none]
  intro g hg
  rw [h g hg]; decide
theorem find_first : ∀ (l : List (List UInt8)) (p : List UInt8 → Bool) (j : Nat) (g : List UInt8), l[j]? = some g → (∀ x ∈ l.take j, p x = false) → p g = true → l.find? p = some g
  | [], _, _, _, h, _, _ => by simp at h
  | x :: l, p, 0, g, h, _, hp => by
    simp at h
    subst h
    simp [hp]
  | x :: l, p, j + 1, g, h, hn, hp => by
    have hx := hn x (by simp)
    rw [List.find?_cons_of_neg (by rw [hx]; decide)]
    exact find_first l p j g (by simpa using h) (fun y hy => hn y (by simp [hy])) hp
theorem signAt_first {r g : List UInt8} {j : Nat} (hg : Lx.signs[j]? = some g) (hn : ∀ x ∈ Lx.signs.take j, x.isPrefixOf r = false) (hp : g.isPrefixOf r = true) : Lx.signAt r = some g :=
  find_first Lx.signs _ j g hg hn hp
theorem signs_step {r g : List UInt8} {j : Nat} (hg : Lx.signs[j]? = some g) (hn : ∀ x ∈ Lx.signs.take j, x.isPrefixOf r = false) (hp : g.isPrefixOf r = false) : ∀ x ∈ Lx.signs.take (j + 1), x.isPrefixOf r = false := by
  intro x hx
  rw [List.take_add_one, hg] at hx
  simp only [Option.toList, List.mem_append, List.mem_singleton] at hx
  rcases hx with hx | rfl
  · exact hn x hx
  · exact hp

set_option maxHeartbeats 1000000 in
theorem scanSign_any (s : ByteArray) (hs : s.size ≤ maxLen) (a : Int) (k : Nat) (ha : a = k) (hk : k < s.size) (w : World) (he : Env w) :
    Calls Tryd.prog 34 #[.string s, .int .i64 a] w fun e w' => e = .returned (scanV k (Lx.oneSign (s.data.toList.drop k))) ∧ Below w.heap.size w w' := by
  subst ha
  unfold maxLen at hs
  have hk2 : k ≤ s.size := by omega
  obtain ⟨gt, gfr, hg⟩ := he.sig
  obtain ⟨iS, hiS, hsS⟩ := infoS_some
  have hlt := heap_lt hg
  clear he
  go_enter Tryd.func34, Tryd.ntmps34
  go_wp2_with (with_reducible refine wpList_load_row rfl 58 (.global 0) rfl 0 rfl gt signsV gfr _ ?c1 Tryd.underlying58 rfl info34 ?_)
  case c1 => rw [heap_alloc_old _ _ hlt]; exact hg
  clear hg
  go_loop [10] (fun i => ∃ j : Nat, j ≤ 23 ∧ i = .int .i64 j ∧ ∀ x ∈ Lx.signs.take j, x.isPrefixOf (s.data.toList.drop k) = false) (fun i => 23 - (intOf i).toNat)
  case atStart => exact ⟨0, by omega, rfl, by simp⟩
  case round =>
    obtain ⟨j, hj, rfl, hn⟩ := hrel
    have HN := Lib.hid hn
    clear hn
    by_cases hlt : j < 23
    · obtain ⟨g, hgj⟩ : ∃ g, Lx.signs[j]? = some g := ⟨_, List.getElem?_eq_getElem (by rw [signs_len]; exact hlt)⟩
      have hix := index_texts 58 9 23 iS signsV j g Tryd.underlying58 Tryd.underlying9 hiS hsS hlt (signsV_at hgj)
      cases hp : g.isPrefixOf (s.data.toList.drop k)
      · have HP := Lib.hid hp
        have HG := Lib.hid hgj
        clear hp hgj
        go_wp2_with (go_at_call 29; refine (hasPrefix_any _ _ false ((congrArg (List.isPrefixOf g) (tail_list s k)).trans HP.out) _).mono ?_; rintro e w' ⟨rfl, rfl⟩)
        go_round
        case rel => exact ⟨j + 1, by omega, by go_num, signs_step HG.out HN.out HP.out⟩
        case measure => simp [intOf]; omega
      · have HP := Lib.hid hp
        have HG := Lib.hid hgj
        have hle : k + g.length ≤ s.size := by
          have h := List.isPrefixOf_iff_prefix.1 hp
          have := h.length_le
          rw [List.length_drop, len_of] at this
          omega
        have hle2 : k + (bs g).size ≤ s.size := hle
        clear hp hgj
        go_wp2_with (go_at_call 29; refine (hasPrefix_any _ _ true ((congrArg (List.isPrefixOf g) (tail_list s k)).trans HP.out) _).mono ?_; rintro e w' ⟨rfl, rfl⟩)
        refine bodyPost_ret (v := .tuple #[.agg #[.int .i64 4, .string (bs g), .int .i64 0, .int .i64 k], .int .i64 (k + (bs g).size), .bool true]) (by simp [results, Tryd.results34, go_sem]) rfl ⟨?_, ?_⟩
        · rw [Lx.oneSign, signAt_first HG.out HN.out HP.out]
          exact ret_scan (by simp [bs_size])
        · exact (Below.refl _ _).alloc (Nat.le_refl _) _
    · have HS : Hid (Lx.signAt (s.data.toList.drop k) = none) := signAt_none (fun x hx => HN.out x (by rw [List.take_of_length_le (by rw [signs_len]; omega)]; exact hx))
      go_wp2
      refine bodyPost_ret (v := .tuple #[.agg #[.int .i64 0, .string ⟨#[]⟩, .int .i64 0, .int .i64 0], .int .i64 0, .bool false]) (by simp [results, Tryd.results34, go_sem]) rfl ⟨?_, (Below.refl _ _).alloc (Nat.le_refl _) _⟩
      rw [Lx.oneSign, HS.out]
      rfl
end Go.Proofs.YtconbldpomjgkaaDoor
