/-
  The contracts of Word and Name: lex's and the document's answer.
-/
import Derived.Test.YtconbldpomjgkaaDoorSmall
namespace Go.Proofs.YtconbldpomjgkaaDoor
open Go.RowKit

theorem isWord_def (l : List UInt8) : Lx.isWord l = (l == [114, 101, 99, 111, 114, 100] || (l == [103, 108, 111, 98, 97, 108] || (l == [102, 117, 110, 99] || (l == [118, 97, 114] || (l == [108, 101, 116] || (l == [105, 102] || (l == [101, 108, 115, 101] || (l == [119, 104, 105, 108, 101] || (l == [114, 101, 116, 117, 114, 110] || (l == [112, 114, 105, 110, 116] || (l == [110, 117, 108, 108] || (l == [110, 101, 119] || (l == [108, 101, 110] || (l == [114, 101, 97, 100] || (l == [116, 114, 117, 101] || (l == [102, 97, 108, 115, 101] || (l == [105, 110, 116] || (l == [98, 111, 111, 108] || false)))))))))))))))))) := rfl

set_option maxHeartbeats 1000000 in
theorem word_any (s : ByteArray) (w : World) : Calls Tryd.prog 13 #[.string s] w fun e w' => e = .returned (.bool (Lx.isWord s.data.toList)) ∧ w = w' := by
  rw [← Lib.toList_data, isWord_def]
  generalize hb : (s.toList == [114, 101, 99, 111, 114, 100] || _) = b
  have HB := Lib.hid hb
  clear hb
  go_enter Tryd.func13, Tryd.ntmps13
  go_wp2
  all_goals
    go_ret
    refine ⟨ret_bool ?_, rfl⟩
    have hb := HB.out
    clear HB
    simp only [*, Bool.true_or, Bool.or_true, Bool.or_false] at hb ⊢
    try (first | exact hb | (rw [← hb]; done) | simp_all)

set_option maxHeartbeats 1000000 in
theorem words_made (w : World) : Calls Tryd.prog 22 #[] w fun e w' => e = .returned (.slice (some ⟨w.heap.size, 0, none⟩) 18 18) ∧ w' = w.alloc (.cells (Lx.words.map fun l => .string (bs l)).toArray 9) := by
  go_enter Tryd.func22, Tryd.ntmps22
  go_wp2
  go_ret
  exact ⟨rfl, rfl⟩
def HasWords (B : Nat) (w : World) : Prop := ∀ j g, Lx.words[j]? = some g → w.cell? ⟨B, j, none⟩ = some (.string (bs g))
theorem words_any (w : World) : Calls Tryd.prog 22 #[] w fun e w' => e = .returned (.slice (some ⟨w.heap.size, 0, none⟩) 18 18) ∧ HasWords w.heap.size w' ∧ Below w.heap.size w w' :=
  (words_made w).mono fun _ _ ⟨he, hw⟩ => ⟨he, fun j g hg => by
    rw [hw, cell_of_row _ _ j _ _ _ (heap_alloc_new w _)]
    simp [hg], hw ▸ (Below.refl _ _).alloc (Nat.le_refl _) _⟩

theorem words_len : Lx.words.length = 18 := by decide
set_option maxHeartbeats 1000000 in
theorem refWord_any (s : ByteArray) (w : World) : Calls Tryd.prog 14 #[.string s] w fun e w' => e = .returned (.bool (Lx.isWord s.data.toList)) ∧ Below w.heap.size w w' := by
  have hlen := words_len
  have HL := Lib.hid hlen
  clear hlen
  go_enter Tryd.func14, Tryd.ntmps14
  go_wp2_with (go_at_call 22; refine (words_any _).mono ?_; rintro e w1 ⟨rfl, hw1, hb⟩)
  have HW := Lib.hid hw1
  clear hw1
  go_loop [4] (fun i => ∃ j : Nat, j ≤ 18 ∧ i = .int .i64 j ∧ ∀ g ∈ Lx.words.take j, g ≠ s.data.toList) (fun i => 18 - (intOf i).toNat)
  case atStart => exact ⟨0, by omega, rfl, by simp⟩
  case round =>
    obtain ⟨j, hj, rfl, hno⟩ := hrel
    have HN := Lib.hid hno
    clear hno
    by_cases hlt : j < 18
    · obtain ⟨g, hg⟩ : ∃ g, Lx.words[j]? = some g := ⟨_, List.getElem?_eq_getElem (by rw [HL.out]; exact hlt)⟩
      have hc := HW.out j g hg
      have HG := Lib.hid hg
      clear hg
      by_cases he : g = s.data.toList
      · have hx : ((bs g).toList == s.toList) = true := by rw [Lib.toList_data, Lib.toList_data, bs_list]; exact beq_iff_eq.2 he
        have HE := Lib.hid he
        clear he
        go_wp2
        go_ret
        refine ⟨ret_bool ?_, hb⟩
        rw [Lx.isWord, List.contains_iff_mem.2 (by rw [← HE.out]; exact List.mem_of_getElem? HG.out)]
      · have hx : ((bs g).toList == s.toList) = false := by rw [Lib.toList_data, Lib.toList_data, bs_list]; exact beq_eq_false_iff_ne.2 he
        have HE := Lib.hid he
        clear he
        go_wp2
        go_round
        case rel =>
          refine ⟨j + 1, by omega, by go_num, ?_⟩
          intro g' hg'
          rw [List.take_add_one, HG.out] at hg'
          simp only [Option.toList, List.mem_append, List.mem_singleton] at hg'
          rcases hg' with hg' | rfl
          · exact HN.out g' hg'
          · exact HE.out
        case measure => simp [intOf]; omega
    · go_wp2
      go_ret
      refine ⟨ret_bool ?_, hb⟩
      have hn := HN.out
      rw [List.take_of_length_le (by rw [HL.out]; omega)] at hn
      rw [Lx.isWord]
      symm
      rw [← Bool.not_eq_true, List.contains_iff_mem]
      exact fun h => hn _ h rfl
end Go.Proofs.YtconbldpomjgkaaDoor
