/-
  What the arrays of the law on apartness contain, round by round.
-/
import Derived.Test.YtapaangppidnoaaSk
import Derived.Test.YtapaangppidnoaaTo
namespace Go.Proofs.Ytapaangppidnoaa
open Go.RowKit

/-- How many cells an array gets. -/
def nn (x : Int) : Nat := (x % 16).toNat
theorem nn_le (x : Int) : nn x ≤ 15 := by unfold nn; omega
theorem i64_and15 (n : Int) : bits .and .i64 n 15 = ((nn n : Nat) : Int) := by
  have h15 : (BitVec.ofInt 64 15).toNat = 2 ^ 4 - 1 := by decide
  have key : (BitVec.ofInt 64 n &&& BitVec.ofInt 64 15).toNat = (n % ((2 ^ 64 : Nat) : Int)).toNat % 2 ^ 4 := by
    rw [BitVec.toNat_and, BitVec.toNat_ofInt, h15, Nat.and_two_pow_sub_one_eq_mod]
  show IntKind.i64.wrap ((BitVec.ofInt 64 n &&& BitVec.ofInt 64 15).toNat : Nat) = _
  rw [key, IntKind.wrap_i64]
  unfold nn
  omega
/-- What is set. -/
def val (v : Int) (i k : Nat) : Int := wrap64 (wrap64 (v + 100 * (i : Int)) + (k : Int))
def rowL (v : Int) (i k a : Nat) (x : Int) : List Int := (List.range (nn x)).map fun b => if a < i ∨ a = i ∧ b < k then val v a b else 0
/-- What all arrays contain once i arrays are set and k cells of the next one. -/
def Lst (l : List Int) (v : Int) (i k : Nat) : List (List Int) := l.mapIdx fun a x => rowL v i k a x
theorem lst_len (l : List Int) (v : Int) (i k : Nat) : (Lst l v i k).length = l.length := by rw [Lst, List.length_mapIdx]
theorem lst_get {l : List Int} {a : Nat} {x : Int} (h : l[a]? = some x) (v : Int) (i k : Nat) : (Lst l v i k)[a]? = some (rowL v i k a x) := by
  rw [Lst, List.getElem?_mapIdx, h]
  rfl
theorem row_len (v : Int) (i k a : Nat) (x : Int) : (rowL v i k a x).length = nn x := by rw [rowL, List.length_map, List.length_range]
theorem row_get (v : Int) (i k a : Nat) {x : Int} {b : Nat} (hb : b < nn x) : (rowL v i k a x)[b]? = some (if a < i ∨ a = i ∧ b < k then val v a b else 0) := by
  rw [rowL, List.getElem?_map, List.getElem?_range hb]
  rfl
theorem lst_zero (l : List Int) (v : Int) : Lst l v 0 0 = l.map fun x => List.replicate (nn x) 0 := by
  refine List.ext_getElem? fun a => ?_
  rw [List.getElem?_map]
  cases h : l[a]? with
  | none => rw [Lst, List.getElem?_mapIdx, h]; rfl
  | some x =>
    rw [lst_get h]
    refine congrArg some (List.ext_getElem? fun b => ?_)
    by_cases hb : b < nn x
    · rw [row_get _ _ _ _ hb, if_neg (by omega), List.getElem?_replicate, if_pos hb]
    · rw [List.getElem?_eq_none (by rw [row_len]; omega), List.getElem?_eq_none (by rw [List.length_replicate]; omega)]
theorem lst_at {l : List Int} {i : Nat} {x : Int} (h : l[i]? = some x) (v : Int) (a k : Nat) : atP (Lst l v a k) ((i : Int) + 1) = some (rowL v a k i x) := by
  rw [atP, if_pos (by omega), show ((i : Int) + 1 - 1).toNat = i by omega, lst_get h]
theorem lst_load {l : List Int} {i : Nat} {x : Int} (h : l[i]? = some x) (v : Int) (a k : Nat) {b : Nat} (hb : b < nn x) : loadP (Lst l v a k) ((i : Int) + 1) (b : Int) = (if i < a ∨ i = a ∧ b < k then val v i b else 0, 0) :=
  loadP_in (lst_at h v a k) (row_get _ _ _ _ hb)
theorem lst_put {l : List Int} {i : Nat} {x : Int} (h : l[i]? = some x) (v : Int) {k : Nat} (hk : k < nn x) : putP (Lst l v i k) ((i : Int) + 1) (k : Int) (val v i k) = Lst l v i (k + 1) := by
  have hi : i < l.length := (List.getElem?_eq_some_iff.1 h).1
  rw [putP, lst_at h]
  show (if 0 ≤ (k : Int) then _ else _) = _
  rw [if_pos (by omega), Int.toNat_natCast, show ((i : Int) + 1 - 1).toNat = i by omega]
  refine List.ext_getElem? fun a => ?_
  rw [List.getElem?_set]
  by_cases ha : i = a
  · subst ha
    rw [if_pos rfl, if_pos (by rw [lst_len]; exact hi), lst_get h]
    refine congrArg some (List.ext_getElem? fun b => ?_)
    rw [List.getElem?_set, row_len]
    by_cases hb : b < nn x
    · rw [row_get _ _ _ _ hb, row_get _ _ _ _ hb]
      by_cases hkb : k = b
      · subst hkb
        rw [if_pos rfl, if_pos hk, if_pos (.inr ⟨rfl, Nat.lt_succ_self _⟩)]
      · rw [if_neg hkb]
        by_cases hbk : b < k
        · rw [if_pos (.inr ⟨rfl, hbk⟩), if_pos (.inr ⟨rfl, by omega⟩)]
        · rw [if_neg (by omega), if_neg (by omega)]
    · rw [if_neg (by omega), List.getElem?_eq_none (by rw [row_len]; omega), List.getElem?_eq_none (by rw [row_len]; omega)]
  · rw [if_neg ha]
    cases hl : l[a]? with
    | none => rw [Lst, Lst, List.getElem?_mapIdx, List.getElem?_mapIdx, hl]; rfl
    | some y =>
      rw [lst_get hl, lst_get hl]
      refine congrArg some (List.ext_getElem? fun b => ?_)
      by_cases hb : b < nn y
      · rw [row_get _ _ _ _ hb, row_get _ _ _ _ hb]
        by_cases h1 : a < i
        · rw [if_pos (.inl h1), if_pos (.inl h1)]
        · rw [if_neg (by omega), if_neg (by omega)]
      · rw [List.getElem?_eq_none (by rw [row_len]; omega), List.getElem?_eq_none (by rw [row_len]; omega)]
/-- An array is set whole. -/
theorem lst_next {l : List Int} {i : Nat} {x : Int} (h : l[i]? = some x) (v : Int) : Lst l v i (nn x) = Lst l v (i + 1) 0 := by
  refine List.ext_getElem? fun a => ?_
  cases hl : l[a]? with
  | none => rw [Lst, Lst, List.getElem?_mapIdx, List.getElem?_mapIdx, hl]; rfl
  | some y =>
    rw [lst_get hl, lst_get hl]
    refine congrArg some (List.ext_getElem? fun b => ?_)
    by_cases hb : b < nn y
    · rw [row_get _ _ _ _ hb, row_get _ _ _ _ hb]
      by_cases ha : a = i
      · subst ha
        rw [h] at hl
        obtain rfl := Option.some.inj hl
        rw [if_pos (.inr ⟨rfl, hb⟩), if_pos (.inl (Nat.lt_succ_self _))]
      · by_cases h1 : a < i
        · rw [if_pos (.inl h1), if_pos (.inl (by omega))]
        · rw [if_neg (by omega), if_neg (by omega)]
    · rw [List.getElem?_eq_none (by rw [row_len]; omega), List.getElem?_eq_none (by rw [row_len]; omega)]
end Go.Proofs.Ytapaangppidnoaa
