/-
  The contract of sign (the document's answer).
-/
import Derived.Test.YtconbldpomjgkaaDoorToks
import Derived.Deep.QuietTactic
import Derived.BigQuiet
import Derived.IntWalk
namespace Go.Proofs.YtconbldpomjgkaaDoor
open Go.RowKit

def twos : List (List UInt8) := [[60, 61], [61, 61], [33, 61], [38, 38], [124, 124]]
def ones : List UInt8 := [123, 125, 40, 41, 91, 93, 59, 58, 44, 46, 61, 43, 45, 42, 47, 37, 60, 33]
theorem signs_eq : Lx.signs = twos ++ ones.map fun c => [c] := rfl
theorem two_len : ∀ g ∈ twos, g.length = 2 := by decide
/-- The sign in front, or nothing. -/
def signText (r : List UInt8) : List UInt8 := (Lx.signAt r).getD []

def HasTwos (B : Nat) (w : World) : Prop := ∀ j g, twos[j]? = some g → w.cell? ⟨B, j, none⟩ = some (.string (bs g))
theorem hasTwos_new (w : World) : HasTwos w.heap.size (w.alloc (.cells #[.string ⟨#[60, 61]⟩, .string ⟨#[61, 61]⟩, .string ⟨#[33, 61]⟩, .string ⟨#[38, 38]⟩, .string ⟨#[124, 124]⟩] 9)) := by
  intro j g hg
  rw [cell_of_row _ _ j _ _ _ (heap_alloc_new w _)]
  match j, hg with
  | 0, hg => injection hg with hg; rw [← hg]; rfl
  | 1, hg => injection hg with hg; rw [← hg]; rfl
  | 2, hg => injection hg with hg; rw [← hg]; rfl
  | 3, hg => injection hg with hg; rw [← hg]; rfl
  | 4, hg => injection hg with hg; rw [← hg]; rfl

theorem two_pre (s : ByteArray) (k : Nat) (h : k + 2 ≤ s.size) (g : List UInt8) (hg : g.length = 2) : ((s.extract k (k + 2)).toList == (bs g).toList) = g.isPrefixOf (s.data.toList.drop k) := by
  rw [Lib.toList_data, Lib.toList_data, bs_list, Lib.extract_data, drop_at s k (by omega), drop_at s (k + 1) (by omega)]
  match g, hg with
  | [a, b], _ =>
    rw [Bool.eq_iff_iff]
    simp [List.isPrefixOf]
    exact ⟨fun ⟨a, b⟩ => ⟨a.symm, b.symm⟩, fun ⟨a, b⟩ => ⟨a.symm, b.symm⟩⟩

theorem pre_step {p : List UInt8 → Bool} {l : List (List UInt8)} {g : List UInt8} {j : Nat} (hg : l[j]? = some g) (hn : ∀ x ∈ l.take j, p x = false) (hp : p g = false) : ∀ x ∈ l.take (j + 1), p x = false := by
  intro x hx
  rw [List.take_add_one, hg] at hx
  simp only [Option.toList, List.mem_append, List.mem_singleton] at hx
  rcases hx with hx | rfl
  · exact hn x hx
  · exact hp

/-- No sign of two bytes stands in front. -/
def NoTwo (s : ByteArray) (k : Nat) : Prop := ∀ x ∈ twos, x.isPrefixOf (s.data.toList.drop k) = false

theorem noTwo_short (s : ByteArray) (k : Nat) (h : ¬ k + 2 ≤ s.size) : NoTwo s k := by
  intro x hx
  have h2 := two_len x hx
  cases hp : x.isPrefixOf (s.data.toList.drop k)
  · rfl
  · have := (List.isPrefixOf_iff_prefix.1 hp).length_le
    rw [List.length_drop, len_of] at this
    omega

theorem below_drawn {B : Nat} {w wr : World} (h : Below B w wr) (n : Nat) : Below B w (wr.drewN n) := ⟨h.os, h.tape, h.output, h.size, h.block⟩
theorem twos_at {j : Nat} {g : List UInt8} (h : twos[j]? = some g) : Lx.signs[j]? = some g := by
  rw [signs_eq, List.getElem?_append_left (List.getElem?_eq_some_iff.1 h).1]; exact h
theorem sign_two {r g : List UInt8} {j : Nat} (hg : twos[j]? = some g) (hn : ∀ x ∈ twos.take j, x.isPrefixOf r = false) (hp : g.isPrefixOf r = true) : g = signText r := by
  have hj := (List.getElem?_eq_some_iff.1 hg).1
  have : Lx.signAt r = some g := signAt_first (twos_at hg) (fun x hx => hn x (by rw [signs_eq, List.take_append_of_le_length (by omega)] at hx; exact hx)) hp
  rw [signText, this]; rfl

theorem ones_size : ({ data := #[123, 125, 40, 41, 91, 93, 59, 58, 44, 46, 61, 43, 45, 42, 47, 37, 60, 33] } : ByteArray).size = 18 := by decide
theorem ones_at {q : Nat} {c : UInt8} (h : ones[q]? = some c) (hq : q < ({ data := #[123, 125, 40, 41, 91, 93, 59, 58, 44, 46, 61, 43, 45, 42, 47, 37, 60, 33] } : ByteArray).size) : ({ data := #[123, 125, 40, 41, 91, 93, 59, 58, 44, 46, 61, 43, 45, 42, 47, 37, 60, 33] } : ByteArray)[q]'hq = c := by
  have h2 : ones[q]? = some (({ data := #[123, 125, 40, 41, 91, 93, 59, 58, 44, 46, 61, 43, 45, 42, 47, 37, 60, 33] } : ByteArray)[q]'hq) := List.getElem?_eq_getElem (l := ones) hq
  rw [h2] at h
  exact Option.some.inj h
theorem ones_cut {q : Nat} {c : UInt8} (h : ones[q]? = some c) : ({ data := #[123, 125, 40, 41, 91, 93, 59, 58, 44, 46, 61, 43, 45, 42, 47, 37, 60, 33] } : ByteArray).extract q (q + 1) = bs [c] := by
  rw [← bs_of (({ data := #[123, 125, 40, 41, 91, 93, 59, 58, 44, 46, 61, 43, 45, 42, 47, 37, 60, 33] } : ByteArray).extract q (q + 1)), ext_list]
  congr 1
  have hq := (List.getElem?_eq_some_iff.1 h).1
  have h3 : ({ data := #[123, 125, 40, 41, 91, 93, 59, 58, 44, 46, 61, 43, 45, 42, 47, 37, 60, 33] } : ByteArray).data.toList = ones := rfl
  rw [h3, List.drop_eq_getElem_cons hq]
  have := (List.getElem?_eq_some_iff.1 h).2
  rw [this]; rfl
theorem one_pre {s : ByteArray} {k : Nat} (hk : k < s.size) (c : UInt8) : [c].isPrefixOf (s.data.toList.drop k) = (c == s[k]) := by
  rw [drop_at s k hk]
  simp [List.isPrefixOf]
theorem twos_len : twos.length = 5 := rfl
theorem noTwo_take {s : ByteArray} {k q : Nat} (hk : k < s.size) (h : NoTwo s k) (hn : ∀ c ∈ ones.take q, c ≠ s[k]) : ∀ x ∈ Lx.signs.take (5 + q), x.isPrefixOf (s.data.toList.drop k) = false := by
  intro x hx
  rw [signs_eq, ← twos_len, List.take_length_add_append, List.mem_append] at hx
  rcases hx with hx | hx
  · exact h x hx
  · rw [← List.map_take, List.mem_map] at hx
    obtain ⟨c, hc, rfl⟩ := hx
    rw [one_pre hk]
    exact beq_eq_false_iff_ne.2 (hn c hc)
theorem sign_one {s : ByteArray} {k q : Nat} (hk : k < s.size) (h : NoTwo s k) (hn : ∀ c ∈ ones.take q, c ≠ s[k]) {c : UInt8} (hc : ones[q]? = some c) (he : c = s[k]) : [c] = signText (s.data.toList.drop k) := by
  have hs : Lx.signs[5 + q]? = some [c] := by
    rw [signs_eq, List.getElem?_append_right (by rw [twos_len]; omega), twos_len, show 5 + q - 5 = q from by omega, List.getElem?_map, hc]; rfl
  have := signAt_first hs (noTwo_take hk h hn) (by rw [one_pre hk]; exact beq_iff_eq.2 he)
  rw [signText, this]; rfl
theorem sign_no {s : ByteArray} {k : Nat} (hk : k < s.size) (h : NoTwo s k) (hn : ∀ c ∈ ones.take 18, c ≠ s[k]) : ([] : List UInt8) = signText (s.data.toList.drop k) := by
  have := noTwo_take hk h hn
  rw [signText, signAt_none (fun g hg => this g (by rw [List.take_of_length_le (by rw [signs_len]; omega)]; exact hg))]; rfl
theorem ones_step {g c : UInt8} {q : Nat} (hg : ones[q]? = some g) (hn : ∀ x ∈ ones.take q, x ≠ c) (hp : g ≠ c) : ∀ x ∈ ones.take (q + 1), x ≠ c := by
  intro x hx
  rw [List.take_add_one, hg] at hx
  simp only [Option.toList, List.mem_append, List.mem_singleton] at hx
  rcases hx with hx | rfl
  · exact hn x hx
  · exact hp

set_option maxHeartbeats 2000000 in
theorem refSign_any (s : ByteArray) (hs : s.size ≤ 6000) (a : Int) (k : Nat) (ha : a = k) (hk : k < s.size) (w : World) :
    Calls Tryd.prog 37 #[.string s, .int .i64 a] w fun e w' => e = .returned (.string (bs (signText (s.data.toList.drop k)))) ∧ Below w.heap.size w w' := by
  subst ha
  have hT := hasTwos_new w
  have hb0 : Below w.heap.size w (w.alloc (.cells #[.string ⟨#[60, 61]⟩, .string ⟨#[61, 61]⟩, .string ⟨#[33, 61]⟩, .string ⟨#[38, 38]⟩, .string ⟨#[124, 124]⟩] 9)) := (Below.refl _ _).alloc (Nat.le_refl _) _
  have HT := Lib.hid hT
  have HB := Lib.hid hb0
  clear hT hb0
  by_cases h2 : k + 2 ≤ s.size
  · have h3 : (k : Int) + 2 ≤ (s.size : Int) := by omega
    have h4 : (2 : Int) ≤ (s.size : Int) - (k : Int) := by omega
    go_enter Tryd.func37, Tryd.ntmps37
    go_wp2
    go_loopw [6] (fun i wr => ∃ j : Nat, j ≤ 5 ∧ i = .int .i64 j ∧ (∀ x ∈ twos.take j, x.isPrefixOf (s.data.toList.drop k) = false) ∧ HasTwos w.heap.size wr ∧ Below w.heap.size w wr) (fun i _ => 5 - (intOf i).toNat)
    case atStart => exact ⟨0, by omega, rfl, by simp, HT.out, HB.out⟩
    case round =>
      obtain ⟨j, hj, rfl, hn, hT, hb⟩ := hrel
      have HN := Lib.hid hn
      have HT2 := Lib.hid hT
      clear hn hT
      by_cases hlt : j < 5
      · obtain ⟨g, hg⟩ : ∃ g, twos[j]? = some g := ⟨_, List.getElem?_eq_getElem (by exact hlt)⟩
        have hc := HT2.out j g hg
        have hx := two_pre s k h2 g (two_len g (List.mem_of_getElem? hg))
        have hj5 : (j : Int) < 5 := by omega
        have w1 : IntKind.i64.wrap ((s.size : Int) - (k : Int)) = (s.size : Int) - (k : Int) := IntWalk.i64_in _ (by omega)
        have w2 : IntKind.i64.wrap ((k : Int) + 2) = (k : Int) + 2 := IntWalk.i64_in _ (by omega)
        have n2 : ((k : Int) + 2).toNat = k + 2 := by omega
        have hd : decide ((2 : Int) ≤ (s.size : Int) - (k : Int)) = true := by simpa using h4
        cases hp : g.isPrefixOf (s.data.toList.drop k)
        · rw [hp] at hx
          have HP := Lib.hid hp
          have HG := Lib.hid hg
          clear hp hg
          go_wp2
          go_quiet (fail)
          clear w1 w2 n2 hd hx
          go_wp2
          go_roundw
          case rel => exact ⟨j + 1, by omega, by go_num, pre_step HG.out HN.out HP.out, HT2.out, below_drawn hb _⟩
          case measure => simp [intOf]; omega
        · rw [hp] at hx
          have HP := Lib.hid hp
          have HG := Lib.hid hg
          clear hp hg
          go_wp2
          go_quiet (fail)
          clear w1 w2 n2 hd hx
          go_wp2
          go_ret
          exact ⟨congrArg (fun l => Ending.returned (.string (bs l))) (sign_two HG.out HN.out HP.out), below_drawn hb _⟩
      · have HNT : Hid (NoTwo s k) := fun x hx => HN.out x (by rw [List.take_of_length_le (by show 5 ≤ j; omega)]; exact hx)
        clear HN
        go_wp2
        go_loopw [8] (fun i wx => ∃ j : Nat, j ≤ 18 ∧ i = .int .i64 j ∧ (∀ c ∈ ones.take j, c ≠ s[k]) ∧ Below w.heap.size w wx) (fun i _ => 18 - (intOf i).toNat)
        case atStart => exact ⟨0, by omega, rfl, by simp, hb⟩
        case round =>
          obtain ⟨q, hq, rfl, hn, hbx⟩ := hrel
          have HN := Lib.hid hn
          clear hn
          by_cases hlq : q < 18
          · obtain ⟨c, hc⟩ : ∃ c, ones[q]? = some c := ⟨_, List.getElem?_eq_getElem (by exact hlq)⟩
            have hq18 : (q : Int) < 18 := by omega
            have hk0 : (k : Int) < (s.size : Int) := by omega
            have hqs : q < ({ data := #[123, 125, 40, 41, 91, 93, 59, 58, 44, 46, 61, 43, 45, 42, 47, 37, 60, 33] } : ByteArray).size := by rw [ones_size]; exact hlq
            have hcc := ones_at hc hqs
            have h5 : (q : Int) + 1 ≤ 18 := by omega
            by_cases he : c = s[k]
            · have hx : ((s[k].toNat : Int) == ((({ data := #[123, 125, 40, 41, 91, 93, 59, 58, 44, 46, 61, 43, 45, 42, 47, 37, 60, 33] } : ByteArray)[q]'hqs).toNat : Int)) = true := by rw [hcc, he]; exact beq_iff_eq.2 rfl
              have HE := Lib.hid he
              have HC := Lib.hid hc
              clear hcc he hc
              go_wp2
              go_quiet (fail)
              go_wp2
              go_ret
              refine ⟨?_, below_drawn hbx _⟩
              show Ending.returned (.string (({ data := #[123, 125, 40, 41, 91, 93, 59, 58, 44, 46, 61, 43, 45, 42, 47, 37, 60, 33] } : ByteArray).extract q (q + 1))) = _
              rw [ones_cut HC.out]
              exact congrArg (fun l => Ending.returned (.string (bs l))) (sign_one hk HNT.out HN.out HC.out HE.out)
            · have hx : ((s[k].toNat : Int) == ((({ data := #[123, 125, 40, 41, 91, 93, 59, 58, 44, 46, 61, 43, 45, 42, 47, 37, 60, 33] } : ByteArray)[q]'hqs).toNat : Int)) = false := by
                rw [hcc]
                exact beq_eq_false_iff_ne.2 (fun h => he (UInt8.toNat_inj.1 (by omega)))
              have HE := Lib.hid he
              have HC := Lib.hid hc
              clear hcc he hc
              go_wp2
              go_quiet (fail)
              go_wp2
              go_roundw
              case rel => exact ⟨q + 1, by omega, by go_num, ones_step HC.out HN.out HE.out, below_drawn hbx _⟩
              case measure => simp [intOf]; omega
          · obtain rfl : q = 18 := by omega
            go_wp2
            go_ret
            exact ⟨congrArg (fun l => Ending.returned (.string (bs l))) (sign_no hk HNT.out HN.out), hbx⟩
  · have h4 : (s.size : Int) - (k : Int) < 2 := by omega
    have hnt := noTwo_short s k h2
    have HNT0 := Lib.hid hnt
    clear hnt h2
    go_enter Tryd.func37, Tryd.ntmps37
    go_wp2
    go_loopw [6] (fun i wr => ∃ j : Nat, j ≤ 5 ∧ i = .int .i64 j ∧ (∀ x ∈ twos.take j, x.isPrefixOf (s.data.toList.drop k) = false) ∧ HasTwos w.heap.size wr ∧ Below w.heap.size w wr) (fun i _ => 5 - (intOf i).toNat)
    case atStart => exact ⟨0, by omega, rfl, by simp, HT.out, HB.out⟩
    case round =>
      obtain ⟨j, hj, rfl, hn, hT, hb⟩ := hrel
      have HN := Lib.hid hn
      have HT2 := Lib.hid hT
      clear hn hT
      by_cases hlt : j < 5
      · have hj5 : (j : Int) < 5 := by omega
        have w1 : IntKind.i64.wrap ((s.size : Int) - (k : Int)) = (s.size : Int) - (k : Int) := IntWalk.i64_in _ (by omega)
        have hd : decide ((2 : Int) ≤ (s.size : Int) - (k : Int)) = false := by simpa using h4
        go_wp2
        go_quiet (fail)
        clear w1 hd
        go_wp2
        go_roundw
        case rel => exact ⟨j + 1, by omega, by go_num, fun x hx => HNT0.out x (List.mem_of_mem_take hx), HT2.out, below_drawn hb _⟩
        case measure => simp [intOf]; omega
      · have HNT := HNT0
        clear HN
        go_wp2
        go_loopw [8] (fun i wx => ∃ j : Nat, j ≤ 18 ∧ i = .int .i64 j ∧ (∀ c ∈ ones.take j, c ≠ s[k]) ∧ Below w.heap.size w wx) (fun i _ => 18 - (intOf i).toNat)
        case atStart => exact ⟨0, by omega, rfl, by simp, hb⟩
        case round =>
          obtain ⟨q, hq, rfl, hn, hbx⟩ := hrel
          have HN := Lib.hid hn
          clear hn
          by_cases hlq : q < 18
          · obtain ⟨c, hc⟩ : ∃ c, ones[q]? = some c := ⟨_, List.getElem?_eq_getElem (by exact hlq)⟩
            have hq18 : (q : Int) < 18 := by omega
            have hk0 : (k : Int) < (s.size : Int) := by omega
            have hqs : q < ({ data := #[123, 125, 40, 41, 91, 93, 59, 58, 44, 46, 61, 43, 45, 42, 47, 37, 60, 33] } : ByteArray).size := by rw [ones_size]; exact hlq
            have hcc := ones_at hc hqs
            have h5 : (q : Int) + 1 ≤ 18 := by omega
            by_cases he : c = s[k]
            · have hx : ((s[k].toNat : Int) == ((({ data := #[123, 125, 40, 41, 91, 93, 59, 58, 44, 46, 61, 43, 45, 42, 47, 37, 60, 33] } : ByteArray)[q]'hqs).toNat : Int)) = true := by rw [hcc, he]; exact beq_iff_eq.2 rfl
              have HE := Lib.hid he
              have HC := Lib.hid hc
              clear hcc he hc
              go_wp2
              go_quiet (fail)
              go_wp2
              go_ret
              refine ⟨?_, below_drawn hbx _⟩
              show Ending.returned (.string (({ data := #[123, 125, 40, 41, 91, 93, 59, 58, 44, 46, 61, 43, 45, 42, 47, 37, 60, 33] } : ByteArray).extract q (q + 1))) = _
              rw [ones_cut HC.out]
              exact congrArg (fun l => Ending.returned (.string (bs l))) (sign_one hk HNT.out HN.out HC.out HE.out)
            · have hx : ((s[k].toNat : Int) == ((({ data := #[123, 125, 40, 41, 91, 93, 59, 58, 44, 46, 61, 43, 45, 42, 47, 37, 60, 33] } : ByteArray)[q]'hqs).toNat : Int)) = false := by
                rw [hcc]
                exact beq_eq_false_iff_ne.2 (fun h => he (UInt8.toNat_inj.1 (by omega)))
              have HE := Lib.hid he
              have HC := Lib.hid hc
              clear hcc he hc
              go_wp2
              go_quiet (fail)
              go_wp2
              go_roundw
              case rel => exact ⟨q + 1, by omega, by go_num, ones_step HC.out HN.out HE.out, below_drawn hbx _⟩
              case measure => simp [intOf]; omega
          · obtain rfl : q = 18 := by omega
            go_wp2
            go_ret
            exact ⟨congrArg (fun l => Ending.returned (.string (bs l))) (sign_no hk HNT.out HN.out), hbx⟩
end Go.Proofs.YtconbldpomjgkaaDoor
