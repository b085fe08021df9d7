/-
  Plain facts on decimal numerals (no program): what strconv.Atoi answers at a numeral that strconv.Itoa made; which texts are no numeral.
-/
import Derived.Lib.ItoaNum
import Derived.Lib.AtoiAll
import Derived.Lib.AtoiAllCases
namespace Go.Proofs.YtconbldpomjgkaaDoor.Nums
open Go Go.Lib

theorem dec_lo {u : Nat} (h : u < 10) : decDigits u = [UInt8.ofNat (48 + u)] := by rw [decDigits, dif_pos h]
theorem dec_hi {u : Nat} (h : ¬ u < 10) : decDigits u = decDigits (u / 10) ++ [UInt8.ofNat (48 + u % 10)] := by rw [decDigits, dif_neg h]

theorem byte_of (d : Nat) (h : d < 10) : (UInt8.ofNat (48 + d)).toNat = 48 + d := by
  rw [UInt8.toNat_ofNat']; omega

theorem dec_ind (P : Nat → Prop) (lo : ∀ u, u < 10 → P u) (hi : ∀ u, ¬ u < 10 → P (u / 10) → P u) (u : Nat) : P u := by
  induction u using Nat.strongRecOn with
  | _ u ih =>
    by_cases h : u < 10
    · exact lo u h
    · exact hi u h (ih (u / 10) (by omega))

theorem dec_mem (u : Nat) : ∀ c ∈ decDigits u, 48 ≤ c.toNat ∧ c.toNat ≤ 57 := by
  refine dec_ind (fun u => ∀ c ∈ decDigits u, 48 ≤ c.toNat ∧ c.toNat ≤ 57) ?_ ?_ u
  · intro u h c hc
    rw [dec_lo h, List.mem_singleton] at hc
    rw [hc, byte_of u h]; omega
  · intro u h ih c hc
    rw [dec_hi h, List.mem_append, List.mem_singleton] at hc
    rcases hc with hc | hc
    · exact ih c hc
    · rw [hc, byte_of _ (by omega)]; omega

theorem dec_ne (u : Nat) : decDigits u ≠ [] := by
  by_cases h : u < 10
  · rw [dec_lo h]; simp
  · rw [dec_hi h]; simp

theorem dec_head (u : Nat) : 1 ≤ u → ∀ c r, decDigits u = c :: r → c.toNat ≠ 48 := by
  refine dec_ind (fun u => 1 ≤ u → ∀ c r, decDigits u = c :: r → c.toNat ≠ 48) ?_ ?_ u
  · intro u h h1 c r e
    rw [dec_lo h] at e
    injection e with e _
    rw [← e, byte_of u h]; omega
  · intro u h ih _ c r e
    rw [dec_hi h] at e
    cases hd : decDigits (u / 10) with
    | nil => exact absurd hd (dec_ne _)
    | cons c' r' =>
      rw [hd, List.cons_append] at e
      injection e with e _
      exact e ▸ ih (by omega) c' r' hd

theorem parse_append : ∀ (l : List UInt8) (acc a : Nat) (m : List UInt8), parseUint10 acc l = .ok a → parseUint10 acc (l ++ m) = parseUint10 a m
  | [], acc, a, m, h => by
    simp only [parseUint10] at h
    injection h with h
    rw [h]; rfl
  | c :: r, acc, a, m, h => by
    simp only [List.cons_append, parseUint10] at h ⊢
    split at h
    · rename_i hc
      rw [if_pos hc]
      split at h
      · cases h
      · rename_i h1
        rw [if_neg h1]
        split at h
        · cases h
        · rename_i h2
          rw [if_neg h2]
          exact parse_append r _ a m h
    · cases h

theorem parse_dec (u : Nat) : u < 18446744073709551616 → parseUint10 0 (decDigits u) = .ok u := by
  refine dec_ind (fun u => u < 18446744073709551616 → parseUint10 0 (decDigits u) = .ok u) ?_ ?_ u
  · intro u h _
    rw [dec_lo h]
    simp only [parseUint10, byte_of u h]
    rw [if_pos (by omega), if_neg (by omega), if_neg (by omega)]
    congr 1; omega
  · intro u h ih hu
    rw [dec_hi h, parse_append _ 0 (u / 10) _ (ih (by omega))]
    simp only [parseUint10, byte_of (u % 10) (by omega)]
    rw [if_pos (by omega), if_neg (by omega), if_neg (by omega)]
    congr 1; omega

theorem mag_dec (u : Nat) (h : u < 18446744073709551616) : parseMag (decDigits u) = .ok u := by
  rw [parseMag, if_neg (dec_ne u)]; exact parse_dec u h

theorem itoa_pos (u : Nat) : itoa (u : Int) = decDigits u := by unfold itoa; rw [if_neg (by omega)]; simp
theorem itoa_neg (u : Nat) (h : 1 ≤ u) : itoa (-(u : Int)) = 45 :: decDigits u := by unfold itoa; rw [if_pos (by omega)]; simp

theorem itoa_cases (n : Int) : (∃ u : Nat, n = u ∧ itoa n = decDigits u) ∨ ∃ u : Nat, 1 ≤ u ∧ n = -(u : Int) ∧ itoa n = 45 :: decDigits u := by
  by_cases h : 0 ≤ n
  · obtain ⟨u, rfl⟩ : ∃ u : Nat, n = u := ⟨n.toNat, by omega⟩
    exact Or.inl ⟨u, rfl, itoa_pos u⟩
  · obtain ⟨u, rfl⟩ : ∃ u : Nat, n = -(u : Int) := ⟨n.natAbs, by omega⟩
    exact Or.inr ⟨u, by omega, rfl, itoa_neg u (by omega)⟩

/-- What Atoi gives at the numeral of an int. -/
theorem atoi_itoa (n : Int) (h0 : -9223372036854775808 ≤ n) (h1 : n ≤ 9223372036854775807) : atoiAll (itoa n) = .ok n := by
  rcases itoa_cases n with ⟨u, rfl, e⟩ | ⟨u, hu, rfl, e⟩
  · rw [e]
    have hm := mag_dec u (by omega)
    cases hd : decDigits u with
    | nil => exact absurd hd (dec_ne u)
    | cons c r =>
      have hc := dec_mem u c (by rw [hd]; exact List.mem_cons_self)
      rw [atoiAll_plain c r (by omega) (by omega), ← hd, hm, signless, if_neg (by omega)]
  · rw [e, atoiAll_minus, mag_dec u (by omega), signed, if_neg (by omega)]

theorem itoa_size (n : Int) (h0 : -9223372036854775808 ≤ n) (h1 : n ≤ 9223372036854775807) : (itoa n).length ≤ 20 := by
  have key : ∀ u : Nat, u < 10000000000000000000 → (decDigits u).length ≤ 19 := fun u hu => by
    rw [decDigits_length]
    rcases Nat.lt_or_ge (nDigits u) 20 with h | h
    · omega
    · exfalso
      have hp : 1 ≤ u := by
        rcases Nat.eq_zero_or_pos u with h0 | h0
        · subst h0; rw [nDigits_small (by omega)] at h; omega
        · exact h0
      have := numDigits_eq u hp (by omega)
      have hb := this.1
      have hl := this.2
      have hx : l10 (bitLen u) = 19 := by split at hb <;> omega
      rw [hx] at hb
      split at hb
      · rename_i hq
        simp only [show (10:Nat) ^ 19 = 10000000000000000000 from rfl] at hq
        omega
      · omega
  rcases itoa_cases n with ⟨u, rfl, e⟩ | ⟨u, hu, rfl, e⟩
  · rw [e]; have := key u (by omega); omega
  · rw [e, List.length_cons]; have := key u (by omega); omega

theorem itoa_mem (n : Int) : ∀ c ∈ itoa n, c = 45 ∨ 48 ≤ c.toNat ∧ c.toNat ≤ 57 := by
  intro c hc
  rcases itoa_cases n with ⟨u, rfl, e⟩ | ⟨u, hu, rfl, e⟩
  · rw [e] at hc; exact Or.inr (dec_mem u c hc)
  · rw [e, List.mem_cons] at hc
    rcases hc with hc | hc
    · exact Or.inl hc
    · exact Or.inr (dec_mem u c hc)

theorem itoa_ne (n : Int) : itoa n ≠ [] := by
  rcases itoa_cases n with ⟨u, rfl, e⟩ | ⟨u, hu, rfl, e⟩ <;> rw [e]
  · exact dec_ne u
  · simp

/-- No numeral: a nought ahead of a numeral. -/
theorem nought (v n : Int) : itoa v ≠ 48 :: itoa n := by
  intro h
  rcases itoa_cases v with ⟨u, rfl, e⟩ | ⟨u, hu, rfl, e⟩
  · rw [e] at h
    by_cases hu : u < 10
    · rw [dec_lo hu] at h
      injection h with _ h
      exact itoa_ne n h.symm
    · exact dec_head u (by omega) _ _ h rfl
  · rw [e] at h
    injection h with h _
    exact absurd h (by decide)

/-- No numeral: a plus sign ahead. -/
theorem plus (v : Int) (l : List UInt8) : itoa v ≠ 43 :: l := by
  intro h
  rcases itoa_mem v 43 (by rw [h]; exact List.mem_cons_self) with h | h
  · exact absurd h (by decide)
  · exact absurd h (by decide)

/-- No numeral: a space behind. -/
theorem behind (v : Int) (l : List UInt8) : itoa v ≠ l ++ [32] := by
  intro h
  rcases itoa_mem v 32 (by rw [h]; simp) with h | h
  · exact absurd h (by decide)
  · exact absurd h (by decide)
end Go.Proofs.YtconbldpomjgkaaDoor.Nums
