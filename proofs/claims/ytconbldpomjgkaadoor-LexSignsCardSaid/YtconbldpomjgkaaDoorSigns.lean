/-
  The walk of LexSigns.
-/
import Derived.Test.YtconbldpomjgkaaDoorWalksL
namespace Go.Proofs.YtconbldpomjgkaaDoor
open Go.RowKit

theorem cat (l m : List UInt8) : bs l ++ bs m = bs (l ++ m) := by
  apply ByteArray.ext
  rw [ByteArray.data_append]
  simp [bs]
def flat (ts : List Lx.Tk) : List UInt8 := ts.flatMap (·.text)
theorem flat_snoc {ts : List Lx.Tk} {j : Nat} {t : Lx.Tk} (h : ts[j]? = some t) : flat (ts.take (j + 1)) = flat (ts.take j) ++ t.text := by
  rw [List.take_add_one, h]
  simp [flat]
theorem flat_len (ts : List Lx.Tk) (j : Nat) : (flat (ts.take j)).length ≤ (flat ts).length := by
  have h : flat ts = flat (ts.take j) ++ flat (ts.drop j) := by
    rw [flat, flat, flat, ← List.flatMap_append, List.take_append_drop]
  rw [h, List.length_append]; omega
theorem sg_cells {w w1 : World} {L A : Array Value} {S I : TypeId} (hb : Below ((w.alloc (.cells L S)).alloc (.cells A I)).heap.size ((w.alloc (.cells L S)).alloc (.cells A I)) w1) (j : Nat) : w1.cell? ⟨w.heap.size, j, none⟩ = L[j]? ∧ w1.cell? ⟨w.heap.size + 1, j, none⟩ = A[j]? := by
  have h0 : w1.heap[w.heap.size]? = some (.cells L S (0, 0)) := by
    rw [hb.block _ (by simp; omega), heap_alloc_old _ _ (by simp)]
    exact heap_alloc_new w _
  have h : w1.heap[w.heap.size + 1]? = some (.cells A I (0, 0)) := by
    rw [hb.block _ (by simp)]
    have := heap_alloc_new (w.alloc (.cells L S)) (.cells A I)
    simpa using this
  exact ⟨cell_of_row _ _ j _ _ _ h0, cell_of_row _ _ j _ _ _ h⟩

set_option maxHeartbeats 1000000 in
theorem sg_0 (w : World) (he : Env w) :
    Calls Tryd.prog 8 #[.int .i64 0] w fun e w' => e = .returned (.bool true) ∧ Below w.heap.size w w' := by
  obtain ⟨ts, ht, hlen, hfl⟩ : ∃ ts, Lx.toks [60, 61] = (ts, 0, 0) ∧ ts.length = 2 ∧ flat ts = [60, 61] := ⟨[⟨4, [60, 61], 0, 0⟩, ⟨0, [], 0, 2⟩], by decide +kernel, rfl, rfl⟩
  have HE := Lib.hid he
  have HT : Hid (Lx.toks (bs [60, 61]).data.toList = (ts, 0, 0)) := ht
  have hln : (ts.length : Int) = 2 := by omega
  have HLN := Lib.hid hln
  have hx : ((bs (flat ts)).toList == [60, 61]) = true := by rw [hfl]; exact beq_iff_eq.2 (Lib.toList_data _)
  have HX := Lib.hid hx
  have HLEN := Lib.hid hlen
  have HFL := Lib.hid hfl
  clear ht he hln hfl hx hlen
  go_enter Tryd.func8, Tryd.ntmps8
  go_wp2_with fail
  refine (tokens_at (bs [60, 61]) (by decide) ts 0 0 HT.out _ (HE.out.below ?_)).mono ?_
  · exact ((Below.refl _ _).alloc (Nat.le_refl _) _).alloc (by simp) _
  rintro e w1 ⟨A, c, rfl, hl1, hb1⟩
  have hz : w.heap.size + 1 < w1.heap.size := by have := hb1.size; simp at this; omega
  have hz0 : w.heap.size < w1.heap.size := by omega
  obtain ⟨c0, c1⟩ := sg_cells hb1 0
  simp at c0 c1
  obtain ⟨g, rfl, hg, hc⟩ := hl1 (by intro h; have := congrArg List.length h; rw [cellsOf_len, List.length_nil] at this; have := HLEN.out; omega)
  have HC := Lib.hid hc
  clear hc
  go_wp2
  go_loop [7, 8] (fun s i => ∃ j : Nat, j ≤ 2 ∧ i = .int .i64 j ∧ s = .string (bs (flat (ts.take j)))) (fun _ i => 2 - (intOf i).toNat)
  case atStart => exact ⟨0, by omega, rfl, rfl⟩
  case round =>
    obtain ⟨j, hj, rfl, rfl⟩ := hrel
    by_cases hlt : j < 2
    · obtain ⟨t, ht⟩ : ∃ t, ts[j]? = some t := ⟨_, List.getElem?_eq_getElem (by have := HLEN.out; omega)⟩
      have ht1 := HC.out _ _ (tok_at ht).2.1
      have hjl : (j : Int) < (ts.length : Int) := by have := HLEN.out; omega
      have hsz : (bs (flat (ts.take j))).size + (bs t.text).size ≤ 9223372036854775807 := by
        have h1 := flat_len ts (j + 1)
        rw [flat_snoc ht, List.length_append, HFL.out] at h1
        rw [bs_size, bs_size]
        simp at h1
        omega
      have HJ := Lib.hid ht
      clear ht
      go_wp2
      refine ⟨⟨j + 1, by omega, by go_num, by rw [flat_snoc HJ.out, cat]⟩, ?_⟩
      simp [intOf]
      omega
    · have hjl : (ts.length : Int) ≤ (j : Int) := by have := HLEN.out; omega
      have hxx := HX.out
      have htk : flat (ts.take j) = flat ts := by rw [List.take_of_length_le (by omega)]
      have hln2 := HLN.out
      have hl3 : ((ts.length : Int) == 2) = true := beq_iff_eq.2 hln2
      have hl4 : (ts.length == 2) = true := beq_iff_eq.2 (by omega)
      rw [htk]
      have HTK := Lib.hid htk
      clear htk hln2
      have hb2 : Below w.heap.size w w1 := below_go ((Below.refl _ _).alloc (Nat.le_refl _) _) (below_go ((Below.refl _ _).alloc (Nat.le_refl _) _) hb1)
      go_wp2_with (go_at_call 12; refine (known_true _ (HE.out.below (hb2.alloc hb2.size _))).mono ?_; rintro e w3 ⟨rfl, hb3⟩)
      go_ret
      exact ⟨rfl, below_go (hb2.alloc hb2.size _) hb3⟩

set_option maxHeartbeats 1000000 in
theorem sg_1 (w : World) (he : Env w) :
    Calls Tryd.prog 8 #[.int .i64 1] w fun e w' => e = .returned (.bool true) ∧ Below w.heap.size w w' := by
  obtain ⟨ts, ht, hlen, hfl⟩ : ∃ ts, Lx.toks [61, 61] = (ts, 0, 0) ∧ ts.length = 2 ∧ flat ts = [61, 61] := ⟨[⟨4, [61, 61], 0, 0⟩, ⟨0, [], 0, 2⟩], by decide +kernel, rfl, rfl⟩
  have HE := Lib.hid he
  have HT : Hid (Lx.toks (bs [61, 61]).data.toList = (ts, 0, 0)) := ht
  have hln : (ts.length : Int) = 2 := by omega
  have HLN := Lib.hid hln
  have hx : ((bs (flat ts)).toList == [61, 61]) = true := by rw [hfl]; exact beq_iff_eq.2 (Lib.toList_data _)
  have HX := Lib.hid hx
  have HLEN := Lib.hid hlen
  have HFL := Lib.hid hfl
  clear ht he hln hfl hx hlen
  go_enter Tryd.func8, Tryd.ntmps8
  go_wp2_with fail
  refine (tokens_at (bs [61, 61]) (by decide) ts 0 0 HT.out _ (HE.out.below ?_)).mono ?_
  · exact ((Below.refl _ _).alloc (Nat.le_refl _) _).alloc (by simp) _
  rintro e w1 ⟨A, c, rfl, hl1, hb1⟩
  have hz : w.heap.size + 1 < w1.heap.size := by have := hb1.size; simp at this; omega
  have hz0 : w.heap.size < w1.heap.size := by omega
  obtain ⟨c0, c1⟩ := sg_cells hb1 1
  simp at c0 c1
  obtain ⟨g, rfl, hg, hc⟩ := hl1 (by intro h; have := congrArg List.length h; rw [cellsOf_len, List.length_nil] at this; have := HLEN.out; omega)
  have HC := Lib.hid hc
  clear hc
  go_wp2
  go_loop [7, 8] (fun s i => ∃ j : Nat, j ≤ 2 ∧ i = .int .i64 j ∧ s = .string (bs (flat (ts.take j)))) (fun _ i => 2 - (intOf i).toNat)
  case atStart => exact ⟨0, by omega, rfl, rfl⟩
  case round =>
    obtain ⟨j, hj, rfl, rfl⟩ := hrel
    by_cases hlt : j < 2
    · obtain ⟨t, ht⟩ : ∃ t, ts[j]? = some t := ⟨_, List.getElem?_eq_getElem (by have := HLEN.out; omega)⟩
      have ht1 := HC.out _ _ (tok_at ht).2.1
      have hjl : (j : Int) < (ts.length : Int) := by have := HLEN.out; omega
      have hsz : (bs (flat (ts.take j))).size + (bs t.text).size ≤ 9223372036854775807 := by
        have h1 := flat_len ts (j + 1)
        rw [flat_snoc ht, List.length_append, HFL.out] at h1
        rw [bs_size, bs_size]
        simp at h1
        omega
      have HJ := Lib.hid ht
      clear ht
      go_wp2
      refine ⟨⟨j + 1, by omega, by go_num, by rw [flat_snoc HJ.out, cat]⟩, ?_⟩
      simp [intOf]
      omega
    · have hjl : (ts.length : Int) ≤ (j : Int) := by have := HLEN.out; omega
      have hxx := HX.out
      have htk : flat (ts.take j) = flat ts := by rw [List.take_of_length_le (by omega)]
      have hln2 := HLN.out
      have hl3 : ((ts.length : Int) == 2) = true := beq_iff_eq.2 hln2
      have hl4 : (ts.length == 2) = true := beq_iff_eq.2 (by omega)
      rw [htk]
      have HTK := Lib.hid htk
      clear htk hln2
      have hb2 : Below w.heap.size w w1 := below_go ((Below.refl _ _).alloc (Nat.le_refl _) _) (below_go ((Below.refl _ _).alloc (Nat.le_refl _) _) hb1)
      go_wp2_with (go_at_call 12; refine (known_true _ (HE.out.below (hb2.alloc hb2.size _))).mono ?_; rintro e w3 ⟨rfl, hb3⟩)
      go_ret
      exact ⟨rfl, below_go (hb2.alloc hb2.size _) hb3⟩

set_option maxHeartbeats 1000000 in
theorem sg_2 (w : World) (he : Env w) :
    Calls Tryd.prog 8 #[.int .i64 2] w fun e w' => e = .returned (.bool true) ∧ Below w.heap.size w w' := by
  obtain ⟨ts, ht, hlen, hfl⟩ : ∃ ts, Lx.toks [33, 61] = (ts, 0, 0) ∧ ts.length = 2 ∧ flat ts = [33, 61] := ⟨[⟨4, [33, 61], 0, 0⟩, ⟨0, [], 0, 2⟩], by decide +kernel, rfl, rfl⟩
  have HE := Lib.hid he
  have HT : Hid (Lx.toks (bs [33, 61]).data.toList = (ts, 0, 0)) := ht
  have hln : (ts.length : Int) = 2 := by omega
  have HLN := Lib.hid hln
  have hx : ((bs (flat ts)).toList == [33, 61]) = true := by rw [hfl]; exact beq_iff_eq.2 (Lib.toList_data _)
  have HX := Lib.hid hx
  have HLEN := Lib.hid hlen
  have HFL := Lib.hid hfl
  clear ht he hln hfl hx hlen
  go_enter Tryd.func8, Tryd.ntmps8
  go_wp2_with fail
  refine (tokens_at (bs [33, 61]) (by decide) ts 0 0 HT.out _ (HE.out.below ?_)).mono ?_
  · exact ((Below.refl _ _).alloc (Nat.le_refl _) _).alloc (by simp) _
  rintro e w1 ⟨A, c, rfl, hl1, hb1⟩
  have hz : w.heap.size + 1 < w1.heap.size := by have := hb1.size; simp at this; omega
  have hz0 : w.heap.size < w1.heap.size := by omega
  obtain ⟨c0, c1⟩ := sg_cells hb1 2
  simp at c0 c1
  obtain ⟨g, rfl, hg, hc⟩ := hl1 (by intro h; have := congrArg List.length h; rw [cellsOf_len, List.length_nil] at this; have := HLEN.out; omega)
  have HC := Lib.hid hc
  clear hc
  go_wp2
  go_loop [7, 8] (fun s i => ∃ j : Nat, j ≤ 2 ∧ i = .int .i64 j ∧ s = .string (bs (flat (ts.take j)))) (fun _ i => 2 - (intOf i).toNat)
  case atStart => exact ⟨0, by omega, rfl, rfl⟩
  case round =>
    obtain ⟨j, hj, rfl, rfl⟩ := hrel
    by_cases hlt : j < 2
    · obtain ⟨t, ht⟩ : ∃ t, ts[j]? = some t := ⟨_, List.getElem?_eq_getElem (by have := HLEN.out; omega)⟩
      have ht1 := HC.out _ _ (tok_at ht).2.1
      have hjl : (j : Int) < (ts.length : Int) := by have := HLEN.out; omega
      have hsz : (bs (flat (ts.take j))).size + (bs t.text).size ≤ 9223372036854775807 := by
        have h1 := flat_len ts (j + 1)
        rw [flat_snoc ht, List.length_append, HFL.out] at h1
        rw [bs_size, bs_size]
        simp at h1
        omega
      have HJ := Lib.hid ht
      clear ht
      go_wp2
      refine ⟨⟨j + 1, by omega, by go_num, by rw [flat_snoc HJ.out, cat]⟩, ?_⟩
      simp [intOf]
      omega
    · have hjl : (ts.length : Int) ≤ (j : Int) := by have := HLEN.out; omega
      have hxx := HX.out
      have htk : flat (ts.take j) = flat ts := by rw [List.take_of_length_le (by omega)]
      have hln2 := HLN.out
      have hl3 : ((ts.length : Int) == 2) = true := beq_iff_eq.2 hln2
      have hl4 : (ts.length == 2) = true := beq_iff_eq.2 (by omega)
      rw [htk]
      have HTK := Lib.hid htk
      clear htk hln2
      have hb2 : Below w.heap.size w w1 := below_go ((Below.refl _ _).alloc (Nat.le_refl _) _) (below_go ((Below.refl _ _).alloc (Nat.le_refl _) _) hb1)
      go_wp2_with (go_at_call 12; refine (known_true _ (HE.out.below (hb2.alloc hb2.size _))).mono ?_; rintro e w3 ⟨rfl, hb3⟩)
      go_ret
      exact ⟨rfl, below_go (hb2.alloc hb2.size _) hb3⟩

set_option maxHeartbeats 1000000 in
theorem sg_3 (w : World) (he : Env w) :
    Calls Tryd.prog 8 #[.int .i64 3] w fun e w' => e = .returned (.bool true) ∧ Below w.heap.size w w' := by
  obtain ⟨ts, ht, hlen, hfl⟩ : ∃ ts, Lx.toks [38, 38] = (ts, 0, 0) ∧ ts.length = 2 ∧ flat ts = [38, 38] := ⟨[⟨4, [38, 38], 0, 0⟩, ⟨0, [], 0, 2⟩], by decide +kernel, rfl, rfl⟩
  have HE := Lib.hid he
  have HT : Hid (Lx.toks (bs [38, 38]).data.toList = (ts, 0, 0)) := ht
  have hln : (ts.length : Int) = 2 := by omega
  have HLN := Lib.hid hln
  have hx : ((bs (flat ts)).toList == [38, 38]) = true := by rw [hfl]; exact beq_iff_eq.2 (Lib.toList_data _)
  have HX := Lib.hid hx
  have HLEN := Lib.hid hlen
  have HFL := Lib.hid hfl
  clear ht he hln hfl hx hlen
  go_enter Tryd.func8, Tryd.ntmps8
  go_wp2_with fail
  refine (tokens_at (bs [38, 38]) (by decide) ts 0 0 HT.out _ (HE.out.below ?_)).mono ?_
  · exact ((Below.refl _ _).alloc (Nat.le_refl _) _).alloc (by simp) _
  rintro e w1 ⟨A, c, rfl, hl1, hb1⟩
  have hz : w.heap.size + 1 < w1.heap.size := by have := hb1.size; simp at this; omega
  have hz0 : w.heap.size < w1.heap.size := by omega
  obtain ⟨c0, c1⟩ := sg_cells hb1 3
  simp at c0 c1
  obtain ⟨g, rfl, hg, hc⟩ := hl1 (by intro h; have := congrArg List.length h; rw [cellsOf_len, List.length_nil] at this; have := HLEN.out; omega)
  have HC := Lib.hid hc
  clear hc
  go_wp2
  go_loop [7, 8] (fun s i => ∃ j : Nat, j ≤ 2 ∧ i = .int .i64 j ∧ s = .string (bs (flat (ts.take j)))) (fun _ i => 2 - (intOf i).toNat)
  case atStart => exact ⟨0, by omega, rfl, rfl⟩
  case round =>
    obtain ⟨j, hj, rfl, rfl⟩ := hrel
    by_cases hlt : j < 2
    · obtain ⟨t, ht⟩ : ∃ t, ts[j]? = some t := ⟨_, List.getElem?_eq_getElem (by have := HLEN.out; omega)⟩
      have ht1 := HC.out _ _ (tok_at ht).2.1
      have hjl : (j : Int) < (ts.length : Int) := by have := HLEN.out; omega
      have hsz : (bs (flat (ts.take j))).size + (bs t.text).size ≤ 9223372036854775807 := by
        have h1 := flat_len ts (j + 1)
        rw [flat_snoc ht, List.length_append, HFL.out] at h1
        rw [bs_size, bs_size]
        simp at h1
        omega
      have HJ := Lib.hid ht
      clear ht
      go_wp2
      refine ⟨⟨j + 1, by omega, by go_num, by rw [flat_snoc HJ.out, cat]⟩, ?_⟩
      simp [intOf]
      omega
    · have hjl : (ts.length : Int) ≤ (j : Int) := by have := HLEN.out; omega
      have hxx := HX.out
      have htk : flat (ts.take j) = flat ts := by rw [List.take_of_length_le (by omega)]
      have hln2 := HLN.out
      have hl3 : ((ts.length : Int) == 2) = true := beq_iff_eq.2 hln2
      have hl4 : (ts.length == 2) = true := beq_iff_eq.2 (by omega)
      rw [htk]
      have HTK := Lib.hid htk
      clear htk hln2
      have hb2 : Below w.heap.size w w1 := below_go ((Below.refl _ _).alloc (Nat.le_refl _) _) (below_go ((Below.refl _ _).alloc (Nat.le_refl _) _) hb1)
      go_wp2_with (go_at_call 12; refine (known_true _ (HE.out.below (hb2.alloc hb2.size _))).mono ?_; rintro e w3 ⟨rfl, hb3⟩)
      go_ret
      exact ⟨rfl, below_go (hb2.alloc hb2.size _) hb3⟩

set_option maxHeartbeats 1000000 in
theorem sg_4 (w : World) (he : Env w) :
    Calls Tryd.prog 8 #[.int .i64 4] w fun e w' => e = .returned (.bool true) ∧ Below w.heap.size w w' := by
  obtain ⟨ts, ht, hlen, hfl⟩ : ∃ ts, Lx.toks [124, 124] = (ts, 0, 0) ∧ ts.length = 2 ∧ flat ts = [124, 124] := ⟨[⟨4, [124, 124], 0, 0⟩, ⟨0, [], 0, 2⟩], by decide +kernel, rfl, rfl⟩
  have HE := Lib.hid he
  have HT : Hid (Lx.toks (bs [124, 124]).data.toList = (ts, 0, 0)) := ht
  have hln : (ts.length : Int) = 2 := by omega
  have HLN := Lib.hid hln
  have hx : ((bs (flat ts)).toList == [124, 124]) = true := by rw [hfl]; exact beq_iff_eq.2 (Lib.toList_data _)
  have HX := Lib.hid hx
  have HLEN := Lib.hid hlen
  have HFL := Lib.hid hfl
  clear ht he hln hfl hx hlen
  go_enter Tryd.func8, Tryd.ntmps8
  go_wp2_with fail
  refine (tokens_at (bs [124, 124]) (by decide) ts 0 0 HT.out _ (HE.out.below ?_)).mono ?_
  · exact ((Below.refl _ _).alloc (Nat.le_refl _) _).alloc (by simp) _
  rintro e w1 ⟨A, c, rfl, hl1, hb1⟩
  have hz : w.heap.size + 1 < w1.heap.size := by have := hb1.size; simp at this; omega
  have hz0 : w.heap.size < w1.heap.size := by omega
  obtain ⟨c0, c1⟩ := sg_cells hb1 4
  simp at c0 c1
  obtain ⟨g, rfl, hg, hc⟩ := hl1 (by intro h; have := congrArg List.length h; rw [cellsOf_len, List.length_nil] at this; have := HLEN.out; omega)
  have HC := Lib.hid hc
  clear hc
  go_wp2
  go_loop [7, 8] (fun s i => ∃ j : Nat, j ≤ 2 ∧ i = .int .i64 j ∧ s = .string (bs (flat (ts.take j)))) (fun _ i => 2 - (intOf i).toNat)
  case atStart => exact ⟨0, by omega, rfl, rfl⟩
  case round =>
    obtain ⟨j, hj, rfl, rfl⟩ := hrel
    by_cases hlt : j < 2
    · obtain ⟨t, ht⟩ : ∃ t, ts[j]? = some t := ⟨_, List.getElem?_eq_getElem (by have := HLEN.out; omega)⟩
      have ht1 := HC.out _ _ (tok_at ht).2.1
      have hjl : (j : Int) < (ts.length : Int) := by have := HLEN.out; omega
      have hsz : (bs (flat (ts.take j))).size + (bs t.text).size ≤ 9223372036854775807 := by
        have h1 := flat_len ts (j + 1)
        rw [flat_snoc ht, List.length_append, HFL.out] at h1
        rw [bs_size, bs_size]
        simp at h1
        omega
      have HJ := Lib.hid ht
      clear ht
      go_wp2
      refine ⟨⟨j + 1, by omega, by go_num, by rw [flat_snoc HJ.out, cat]⟩, ?_⟩
      simp [intOf]
      omega
    · have hjl : (ts.length : Int) ≤ (j : Int) := by have := HLEN.out; omega
      have hxx := HX.out
      have htk : flat (ts.take j) = flat ts := by rw [List.take_of_length_le (by omega)]
      have hln2 := HLN.out
      have hl3 : ((ts.length : Int) == 2) = true := beq_iff_eq.2 hln2
      have hl4 : (ts.length == 2) = true := beq_iff_eq.2 (by omega)
      rw [htk]
      have HTK := Lib.hid htk
      clear htk hln2
      have hb2 : Below w.heap.size w w1 := below_go ((Below.refl _ _).alloc (Nat.le_refl _) _) (below_go ((Below.refl _ _).alloc (Nat.le_refl _) _) hb1)
      go_wp2_with (go_at_call 12; refine (known_true _ (HE.out.below (hb2.alloc hb2.size _))).mono ?_; rintro e w3 ⟨rfl, hb3⟩)
      go_ret
      exact ⟨rfl, below_go (hb2.alloc hb2.size _) hb3⟩

set_option maxHeartbeats 1000000 in
theorem sg_5 (w : World) (he : Env w) :
    Calls Tryd.prog 8 #[.int .i64 5] w fun e w' => e = .returned (.bool true) ∧ Below w.heap.size w w' := by
  obtain ⟨ts, ht, hlen, hfl⟩ : ∃ ts, Lx.toks [60, 61, 61] = (ts, 0, 0) ∧ ts.length = 3 ∧ flat ts = [60, 61, 61] := ⟨[⟨4, [60, 61], 0, 0⟩, ⟨4, [61], 0, 2⟩, ⟨0, [], 0, 3⟩], by decide +kernel, rfl, rfl⟩
  have HE := Lib.hid he
  have HT : Hid (Lx.toks (bs [60, 61, 61]).data.toList = (ts, 0, 0)) := ht
  have hln : (ts.length : Int) = 3 := by omega
  have HLN := Lib.hid hln
  have hx : ((bs (flat ts)).toList == [60, 61, 61]) = true := by rw [hfl]; exact beq_iff_eq.2 (Lib.toList_data _)
  have HX := Lib.hid hx
  have HLEN := Lib.hid hlen
  have HFL := Lib.hid hfl
  clear ht he hln hfl hx hlen
  go_enter Tryd.func8, Tryd.ntmps8
  go_wp2_with fail
  refine (tokens_at (bs [60, 61, 61]) (by decide) ts 0 0 HT.out _ (HE.out.below ?_)).mono ?_
  · exact ((Below.refl _ _).alloc (Nat.le_refl _) _).alloc (by simp) _
  rintro e w1 ⟨A, c, rfl, hl1, hb1⟩
  have hz : w.heap.size + 1 < w1.heap.size := by have := hb1.size; simp at this; omega
  have hz0 : w.heap.size < w1.heap.size := by omega
  obtain ⟨c0, c1⟩ := sg_cells hb1 5
  simp at c0 c1
  obtain ⟨g, rfl, hg, hc⟩ := hl1 (by intro h; have := congrArg List.length h; rw [cellsOf_len, List.length_nil] at this; have := HLEN.out; omega)
  have HC := Lib.hid hc
  clear hc
  go_wp2
  go_loop [7, 8] (fun s i => ∃ j : Nat, j ≤ 3 ∧ i = .int .i64 j ∧ s = .string (bs (flat (ts.take j)))) (fun _ i => 3 - (intOf i).toNat)
  case atStart => exact ⟨0, by omega, rfl, rfl⟩
  case round =>
    obtain ⟨j, hj, rfl, rfl⟩ := hrel
    by_cases hlt : j < 3
    · obtain ⟨t, ht⟩ : ∃ t, ts[j]? = some t := ⟨_, List.getElem?_eq_getElem (by have := HLEN.out; omega)⟩
      have ht1 := HC.out _ _ (tok_at ht).2.1
      have hjl : (j : Int) < (ts.length : Int) := by have := HLEN.out; omega
      have hsz : (bs (flat (ts.take j))).size + (bs t.text).size ≤ 9223372036854775807 := by
        have h1 := flat_len ts (j + 1)
        rw [flat_snoc ht, List.length_append, HFL.out] at h1
        rw [bs_size, bs_size]
        simp at h1
        omega
      have HJ := Lib.hid ht
      clear ht
      go_wp2
      refine ⟨⟨j + 1, by omega, by go_num, by rw [flat_snoc HJ.out, cat]⟩, ?_⟩
      simp [intOf]
      omega
    · have hjl : (ts.length : Int) ≤ (j : Int) := by have := HLEN.out; omega
      have hxx := HX.out
      have htk : flat (ts.take j) = flat ts := by rw [List.take_of_length_le (by omega)]
      have hln2 := HLN.out
      have hl3 : ((ts.length : Int) == 3) = true := beq_iff_eq.2 hln2
      have hl4 : (ts.length == 3) = true := beq_iff_eq.2 (by omega)
      rw [htk]
      have HTK := Lib.hid htk
      clear htk hln2
      have hb2 : Below w.heap.size w w1 := below_go ((Below.refl _ _).alloc (Nat.le_refl _) _) (below_go ((Below.refl _ _).alloc (Nat.le_refl _) _) hb1)
      go_wp2_with (go_at_call 12; refine (known_true _ (HE.out.below (hb2.alloc hb2.size _))).mono ?_; rintro e w3 ⟨rfl, hb3⟩)
      go_ret
      exact ⟨rfl, below_go (hb2.alloc hb2.size _) hb3⟩

set_option maxHeartbeats 1000000 in
theorem sg_6 (w : World) (he : Env w) :
    Calls Tryd.prog 8 #[.int .i64 6] w fun e w' => e = .returned (.bool true) ∧ Below w.heap.size w w' := by
  obtain ⟨ts, ht, hlen, hfl⟩ : ∃ ts, Lx.toks [61, 61, 61] = (ts, 0, 0) ∧ ts.length = 3 ∧ flat ts = [61, 61, 61] := ⟨[⟨4, [61, 61], 0, 0⟩, ⟨4, [61], 0, 2⟩, ⟨0, [], 0, 3⟩], by decide +kernel, rfl, rfl⟩
  have HE := Lib.hid he
  have HT : Hid (Lx.toks (bs [61, 61, 61]).data.toList = (ts, 0, 0)) := ht
  have hln : (ts.length : Int) = 3 := by omega
  have HLN := Lib.hid hln
  have hx : ((bs (flat ts)).toList == [61, 61, 61]) = true := by rw [hfl]; exact beq_iff_eq.2 (Lib.toList_data _)
  have HX := Lib.hid hx
  have HLEN := Lib.hid hlen
  have HFL := Lib.hid hfl
  clear ht he hln hfl hx hlen
  go_enter Tryd.func8, Tryd.ntmps8
  go_wp2_with fail
  refine (tokens_at (bs [61, 61, 61]) (by decide) ts 0 0 HT.out _ (HE.out.below ?_)).mono ?_
  · exact ((Below.refl _ _).alloc (Nat.le_refl _) _).alloc (by simp) _
  rintro e w1 ⟨A, c, rfl, hl1, hb1⟩
  have hz : w.heap.size + 1 < w1.heap.size := by have := hb1.size; simp at this; omega
  have hz0 : w.heap.size < w1.heap.size := by omega
  obtain ⟨c0, c1⟩ := sg_cells hb1 6
  simp at c0 c1
  obtain ⟨g, rfl, hg, hc⟩ := hl1 (by intro h; have := congrArg List.length h; rw [cellsOf_len, List.length_nil] at this; have := HLEN.out; omega)
  have HC := Lib.hid hc
  clear hc
  go_wp2
  go_loop [7, 8] (fun s i => ∃ j : Nat, j ≤ 3 ∧ i = .int .i64 j ∧ s = .string (bs (flat (ts.take j)))) (fun _ i => 3 - (intOf i).toNat)
  case atStart => exact ⟨0, by omega, rfl, rfl⟩
  case round =>
    obtain ⟨j, hj, rfl, rfl⟩ := hrel
    by_cases hlt : j < 3
    · obtain ⟨t, ht⟩ : ∃ t, ts[j]? = some t := ⟨_, List.getElem?_eq_getElem (by have := HLEN.out; omega)⟩
      have ht1 := HC.out _ _ (tok_at ht).2.1
      have hjl : (j : Int) < (ts.length : Int) := by have := HLEN.out; omega
      have hsz : (bs (flat (ts.take j))).size + (bs t.text).size ≤ 9223372036854775807 := by
        have h1 := flat_len ts (j + 1)
        rw [flat_snoc ht, List.length_append, HFL.out] at h1
        rw [bs_size, bs_size]
        simp at h1
        omega
      have HJ := Lib.hid ht
      clear ht
      go_wp2
      refine ⟨⟨j + 1, by omega, by go_num, by rw [flat_snoc HJ.out, cat]⟩, ?_⟩
      simp [intOf]
      omega
    · have hjl : (ts.length : Int) ≤ (j : Int) := by have := HLEN.out; omega
      have hxx := HX.out
      have htk : flat (ts.take j) = flat ts := by rw [List.take_of_length_le (by omega)]
      have hln2 := HLN.out
      have hl3 : ((ts.length : Int) == 3) = true := beq_iff_eq.2 hln2
      have hl4 : (ts.length == 3) = true := beq_iff_eq.2 (by omega)
      rw [htk]
      have HTK := Lib.hid htk
      clear htk hln2
      have hb2 : Below w.heap.size w w1 := below_go ((Below.refl _ _).alloc (Nat.le_refl _) _) (below_go ((Below.refl _ _).alloc (Nat.le_refl _) _) hb1)
      go_wp2_with (go_at_call 12; refine (known_true _ (HE.out.below (hb2.alloc hb2.size _))).mono ?_; rintro e w3 ⟨rfl, hb3⟩)
      go_ret
      exact ⟨rfl, below_go (hb2.alloc hb2.size _) hb3⟩

set_option maxHeartbeats 1000000 in
theorem sg_7 (w : World) (he : Env w) :
    Calls Tryd.prog 8 #[.int .i64 7] w fun e w' => e = .returned (.bool true) ∧ Below w.heap.size w w' := by
  obtain ⟨ts, ht, hlen, hfl⟩ : ∃ ts, Lx.toks [33, 61, 61] = (ts, 0, 0) ∧ ts.length = 3 ∧ flat ts = [33, 61, 61] := ⟨[⟨4, [33, 61], 0, 0⟩, ⟨4, [61], 0, 2⟩, ⟨0, [], 0, 3⟩], by decide +kernel, rfl, rfl⟩
  have HE := Lib.hid he
  have HT : Hid (Lx.toks (bs [33, 61, 61]).data.toList = (ts, 0, 0)) := ht
  have hln : (ts.length : Int) = 3 := by omega
  have HLN := Lib.hid hln
  have hx : ((bs (flat ts)).toList == [33, 61, 61]) = true := by rw [hfl]; exact beq_iff_eq.2 (Lib.toList_data _)
  have HX := Lib.hid hx
  have HLEN := Lib.hid hlen
  have HFL := Lib.hid hfl
  clear ht he hln hfl hx hlen
  go_enter Tryd.func8, Tryd.ntmps8
  go_wp2_with fail
  refine (tokens_at (bs [33, 61, 61]) (by decide) ts 0 0 HT.out _ (HE.out.below ?_)).mono ?_
  · exact ((Below.refl _ _).alloc (Nat.le_refl _) _).alloc (by simp) _
  rintro e w1 ⟨A, c, rfl, hl1, hb1⟩
  have hz : w.heap.size + 1 < w1.heap.size := by have := hb1.size; simp at this; omega
  have hz0 : w.heap.size < w1.heap.size := by omega
  obtain ⟨c0, c1⟩ := sg_cells hb1 7
  simp at c0 c1
  obtain ⟨g, rfl, hg, hc⟩ := hl1 (by intro h; have := congrArg List.length h; rw [cellsOf_len, List.length_nil] at this; have := HLEN.out; omega)
  have HC := Lib.hid hc
  clear hc
  go_wp2
  go_loop [7, 8] (fun s i => ∃ j : Nat, j ≤ 3 ∧ i = .int .i64 j ∧ s = .string (bs (flat (ts.take j)))) (fun _ i => 3 - (intOf i).toNat)
  case atStart => exact ⟨0, by omega, rfl, rfl⟩
  case round =>
    obtain ⟨j, hj, rfl, rfl⟩ := hrel
    by_cases hlt : j < 3
    · obtain ⟨t, ht⟩ : ∃ t, ts[j]? = some t := ⟨_, List.getElem?_eq_getElem (by have := HLEN.out; omega)⟩
      have ht1 := HC.out _ _ (tok_at ht).2.1
      have hjl : (j : Int) < (ts.length : Int) := by have := HLEN.out; omega
      have hsz : (bs (flat (ts.take j))).size + (bs t.text).size ≤ 9223372036854775807 := by
        have h1 := flat_len ts (j + 1)
        rw [flat_snoc ht, List.length_append, HFL.out] at h1
        rw [bs_size, bs_size]
        simp at h1
        omega
      have HJ := Lib.hid ht
      clear ht
      go_wp2
      refine ⟨⟨j + 1, by omega, by go_num, by rw [flat_snoc HJ.out, cat]⟩, ?_⟩
      simp [intOf]
      omega
    · have hjl : (ts.length : Int) ≤ (j : Int) := by have := HLEN.out; omega
      have hxx := HX.out
      have htk : flat (ts.take j) = flat ts := by rw [List.take_of_length_le (by omega)]
      have hln2 := HLN.out
      have hl3 : ((ts.length : Int) == 3) = true := beq_iff_eq.2 hln2
      have hl4 : (ts.length == 3) = true := beq_iff_eq.2 (by omega)
      rw [htk]
      have HTK := Lib.hid htk
      clear htk hln2
      have hb2 : Below w.heap.size w w1 := below_go ((Below.refl _ _).alloc (Nat.le_refl _) _) (below_go ((Below.refl _ _).alloc (Nat.le_refl _) _) hb1)
      go_wp2_with (go_at_call 12; refine (known_true _ (HE.out.below (hb2.alloc hb2.size _))).mono ?_; rintro e w3 ⟨rfl, hb3⟩)
      go_ret
      exact ⟨rfl, below_go (hb2.alloc hb2.size _) hb3⟩

set_option maxHeartbeats 1000000 in
theorem sg_8 (w : World) (he : Env w) :
    Calls Tryd.prog 8 #[.int .i64 8] w fun e w' => e = .returned (.bool true) ∧ Below w.heap.size w w' := by
  obtain ⟨ts, ht, hlen, hfl⟩ : ∃ ts, Lx.toks [61, 60, 61] = (ts, 0, 0) ∧ ts.length = 3 ∧ flat ts = [61, 60, 61] := ⟨[⟨4, [61], 0, 0⟩, ⟨4, [60, 61], 0, 1⟩, ⟨0, [], 0, 3⟩], by decide +kernel, rfl, rfl⟩
  have HE := Lib.hid he
  have HT : Hid (Lx.toks (bs [61, 60, 61]).data.toList = (ts, 0, 0)) := ht
  have hln : (ts.length : Int) = 3 := by omega
  have HLN := Lib.hid hln
  have hx : ((bs (flat ts)).toList == [61, 60, 61]) = true := by rw [hfl]; exact beq_iff_eq.2 (Lib.toList_data _)
  have HX := Lib.hid hx
  have HLEN := Lib.hid hlen
  have HFL := Lib.hid hfl
  clear ht he hln hfl hx hlen
  go_enter Tryd.func8, Tryd.ntmps8
  go_wp2_with fail
  refine (tokens_at (bs [61, 60, 61]) (by decide) ts 0 0 HT.out _ (HE.out.below ?_)).mono ?_
  · exact ((Below.refl _ _).alloc (Nat.le_refl _) _).alloc (by simp) _
  rintro e w1 ⟨A, c, rfl, hl1, hb1⟩
  have hz : w.heap.size + 1 < w1.heap.size := by have := hb1.size; simp at this; omega
  have hz0 : w.heap.size < w1.heap.size := by omega
  obtain ⟨c0, c1⟩ := sg_cells hb1 8
  simp at c0 c1
  obtain ⟨g, rfl, hg, hc⟩ := hl1 (by intro h; have := congrArg List.length h; rw [cellsOf_len, List.length_nil] at this; have := HLEN.out; omega)
  have HC := Lib.hid hc
  clear hc
  go_wp2
  go_loop [7, 8] (fun s i => ∃ j : Nat, j ≤ 3 ∧ i = .int .i64 j ∧ s = .string (bs (flat (ts.take j)))) (fun _ i => 3 - (intOf i).toNat)
  case atStart => exact ⟨0, by omega, rfl, rfl⟩
  case round =>
    obtain ⟨j, hj, rfl, rfl⟩ := hrel
    by_cases hlt : j < 3
    · obtain ⟨t, ht⟩ : ∃ t, ts[j]? = some t := ⟨_, List.getElem?_eq_getElem (by have := HLEN.out; omega)⟩
      have ht1 := HC.out _ _ (tok_at ht).2.1
      have hjl : (j : Int) < (ts.length : Int) := by have := HLEN.out; omega
      have hsz : (bs (flat (ts.take j))).size + (bs t.text).size ≤ 9223372036854775807 := by
        have h1 := flat_len ts (j + 1)
        rw [flat_snoc ht, List.length_append, HFL.out] at h1
        rw [bs_size, bs_size]
        simp at h1
        omega
      have HJ := Lib.hid ht
      clear ht
      go_wp2
      refine ⟨⟨j + 1, by omega, by go_num, by rw [flat_snoc HJ.out, cat]⟩, ?_⟩
      simp [intOf]
      omega
    · have hjl : (ts.length : Int) ≤ (j : Int) := by have := HLEN.out; omega
      have hxx := HX.out
      have htk : flat (ts.take j) = flat ts := by rw [List.take_of_length_le (by omega)]
      have hln2 := HLN.out
      have hl3 : ((ts.length : Int) == 3) = true := beq_iff_eq.2 hln2
      have hl4 : (ts.length == 3) = true := beq_iff_eq.2 (by omega)
      rw [htk]
      have HTK := Lib.hid htk
      clear htk hln2
      have hb2 : Below w.heap.size w w1 := below_go ((Below.refl _ _).alloc (Nat.le_refl _) _) (below_go ((Below.refl _ _).alloc (Nat.le_refl _) _) hb1)
      go_wp2_with (go_at_call 12; refine (known_true _ (HE.out.below (hb2.alloc hb2.size _))).mono ?_; rintro e w3 ⟨rfl, hb3⟩)
      go_ret
      exact ⟨rfl, below_go (hb2.alloc hb2.size _) hb3⟩

set_option maxHeartbeats 1000000 in
theorem sg_9 (w : World) (he : Env w) :
    Calls Tryd.prog 8 #[.int .i64 9] w fun e w' => e = .returned (.bool true) ∧ Below w.heap.size w w' := by
  obtain ⟨ts, ht, hlen, hfl⟩ : ∃ ts, Lx.toks [45, 45] = (ts, 0, 0) ∧ ts.length = 3 ∧ flat ts = [45, 45] := ⟨[⟨4, [45], 0, 0⟩, ⟨4, [45], 0, 1⟩, ⟨0, [], 0, 2⟩], by decide +kernel, rfl, rfl⟩
  have HE := Lib.hid he
  have HT : Hid (Lx.toks (bs [45, 45]).data.toList = (ts, 0, 0)) := ht
  have hln : (ts.length : Int) = 3 := by omega
  have HLN := Lib.hid hln
  have hx : ((bs (flat ts)).toList == [45, 45]) = true := by rw [hfl]; exact beq_iff_eq.2 (Lib.toList_data _)
  have HX := Lib.hid hx
  have HLEN := Lib.hid hlen
  have HFL := Lib.hid hfl
  clear ht he hln hfl hx hlen
  go_enter Tryd.func8, Tryd.ntmps8
  go_wp2_with fail
  refine (tokens_at (bs [45, 45]) (by decide) ts 0 0 HT.out _ (HE.out.below ?_)).mono ?_
  · exact ((Below.refl _ _).alloc (Nat.le_refl _) _).alloc (by simp) _
  rintro e w1 ⟨A, c, rfl, hl1, hb1⟩
  have hz : w.heap.size + 1 < w1.heap.size := by have := hb1.size; simp at this; omega
  have hz0 : w.heap.size < w1.heap.size := by omega
  obtain ⟨c0, c1⟩ := sg_cells hb1 9
  simp at c0 c1
  obtain ⟨g, rfl, hg, hc⟩ := hl1 (by intro h; have := congrArg List.length h; rw [cellsOf_len, List.length_nil] at this; have := HLEN.out; omega)
  have HC := Lib.hid hc
  clear hc
  go_wp2
  go_loop [7, 8] (fun s i => ∃ j : Nat, j ≤ 3 ∧ i = .int .i64 j ∧ s = .string (bs (flat (ts.take j)))) (fun _ i => 3 - (intOf i).toNat)
  case atStart => exact ⟨0, by omega, rfl, rfl⟩
  case round =>
    obtain ⟨j, hj, rfl, rfl⟩ := hrel
    by_cases hlt : j < 3
    · obtain ⟨t, ht⟩ : ∃ t, ts[j]? = some t := ⟨_, List.getElem?_eq_getElem (by have := HLEN.out; omega)⟩
      have ht1 := HC.out _ _ (tok_at ht).2.1
      have hjl : (j : Int) < (ts.length : Int) := by have := HLEN.out; omega
      have hsz : (bs (flat (ts.take j))).size + (bs t.text).size ≤ 9223372036854775807 := by
        have h1 := flat_len ts (j + 1)
        rw [flat_snoc ht, List.length_append, HFL.out] at h1
        rw [bs_size, bs_size]
        simp at h1
        omega
      have HJ := Lib.hid ht
      clear ht
      go_wp2
      refine ⟨⟨j + 1, by omega, by go_num, by rw [flat_snoc HJ.out, cat]⟩, ?_⟩
      simp [intOf]
      omega
    · have hjl : (ts.length : Int) ≤ (j : Int) := by have := HLEN.out; omega
      have hxx := HX.out
      have htk : flat (ts.take j) = flat ts := by rw [List.take_of_length_le (by omega)]
      have hln2 := HLN.out
      have hl3 : ((ts.length : Int) == 3) = true := beq_iff_eq.2 hln2
      have hl4 : (ts.length == 3) = true := beq_iff_eq.2 (by omega)
      rw [htk]
      have HTK := Lib.hid htk
      clear htk hln2
      have hb2 : Below w.heap.size w w1 := below_go ((Below.refl _ _).alloc (Nat.le_refl _) _) (below_go ((Below.refl _ _).alloc (Nat.le_refl _) _) hb1)
      go_wp2_with (go_at_call 12; refine (known_true _ (HE.out.below (hb2.alloc hb2.size _))).mono ?_; rintro e w3 ⟨rfl, hb3⟩)
      go_ret
      exact ⟨rfl, below_go (hb2.alloc hb2.size _) hb3⟩

set_option maxHeartbeats 1000000 in
theorem sg_10 (w : World) (he : Env w) :
    Calls Tryd.prog 8 #[.int .i64 10] w fun e w' => e = .returned (.bool true) ∧ Below w.heap.size w w' := by
  obtain ⟨ts, ht, hlen, hfl⟩ : ∃ ts, Lx.toks [33, 33] = (ts, 0, 0) ∧ ts.length = 3 ∧ flat ts = [33, 33] := ⟨[⟨4, [33], 0, 0⟩, ⟨4, [33], 0, 1⟩, ⟨0, [], 0, 2⟩], by decide +kernel, rfl, rfl⟩
  have HE := Lib.hid he
  have HT : Hid (Lx.toks (bs [33, 33]).data.toList = (ts, 0, 0)) := ht
  have hln : (ts.length : Int) = 3 := by omega
  have HLN := Lib.hid hln
  have hx : ((bs (flat ts)).toList == [33, 33]) = true := by rw [hfl]; exact beq_iff_eq.2 (Lib.toList_data _)
  have HX := Lib.hid hx
  have HLEN := Lib.hid hlen
  have HFL := Lib.hid hfl
  clear ht he hln hfl hx hlen
  go_enter Tryd.func8, Tryd.ntmps8
  go_wp2_with fail
  refine (tokens_at (bs [33, 33]) (by decide) ts 0 0 HT.out _ (HE.out.below ?_)).mono ?_
  · exact ((Below.refl _ _).alloc (Nat.le_refl _) _).alloc (by simp) _
  rintro e w1 ⟨A, c, rfl, hl1, hb1⟩
  have hz : w.heap.size + 1 < w1.heap.size := by have := hb1.size; simp at this; omega
  have hz0 : w.heap.size < w1.heap.size := by omega
  obtain ⟨c0, c1⟩ := sg_cells hb1 10
  simp at c0 c1
  obtain ⟨g, rfl, hg, hc⟩ := hl1 (by intro h; have := congrArg List.length h; rw [cellsOf_len, List.length_nil] at this; have := HLEN.out; omega)
  have HC := Lib.hid hc
  clear hc
  go_wp2
  go_loop [7, 8] (fun s i => ∃ j : Nat, j ≤ 3 ∧ i = .int .i64 j ∧ s = .string (bs (flat (ts.take j)))) (fun _ i => 3 - (intOf i).toNat)
  case atStart => exact ⟨0, by omega, rfl, rfl⟩
  case round =>
    obtain ⟨j, hj, rfl, rfl⟩ := hrel
    by_cases hlt : j < 3
    · obtain ⟨t, ht⟩ : ∃ t, ts[j]? = some t := ⟨_, List.getElem?_eq_getElem (by have := HLEN.out; omega)⟩
      have ht1 := HC.out _ _ (tok_at ht).2.1
      have hjl : (j : Int) < (ts.length : Int) := by have := HLEN.out; omega
      have hsz : (bs (flat (ts.take j))).size + (bs t.text).size ≤ 9223372036854775807 := by
        have h1 := flat_len ts (j + 1)
        rw [flat_snoc ht, List.length_append, HFL.out] at h1
        rw [bs_size, bs_size]
        simp at h1
        omega
      have HJ := Lib.hid ht
      clear ht
      go_wp2
      refine ⟨⟨j + 1, by omega, by go_num, by rw [flat_snoc HJ.out, cat]⟩, ?_⟩
      simp [intOf]
      omega
    · have hjl : (ts.length : Int) ≤ (j : Int) := by have := HLEN.out; omega
      have hxx := HX.out
      have htk : flat (ts.take j) = flat ts := by rw [List.take_of_length_le (by omega)]
      have hln2 := HLN.out
      have hl3 : ((ts.length : Int) == 3) = true := beq_iff_eq.2 hln2
      have hl4 : (ts.length == 3) = true := beq_iff_eq.2 (by omega)
      rw [htk]
      have HTK := Lib.hid htk
      clear htk hln2
      have hb2 : Below w.heap.size w w1 := below_go ((Below.refl _ _).alloc (Nat.le_refl _) _) (below_go ((Below.refl _ _).alloc (Nat.le_refl _) _) hb1)
      go_wp2_with (go_at_call 12; refine (known_true _ (HE.out.below (hb2.alloc hb2.size _))).mono ?_; rintro e w3 ⟨rfl, hb3⟩)
      go_ret
      exact ⟨rfl, below_go (hb2.alloc hb2.size _) hb3⟩

set_option maxHeartbeats 1000000 in
theorem sg_11 (w : World) (he : Env w) :
    Calls Tryd.prog 8 #[.int .i64 11] w fun e w' => e = .returned (.bool true) ∧ Below w.heap.size w w' := by
  obtain ⟨ts, ht, hlen, hfl⟩ : ∃ ts, Lx.toks [60, 60, 61] = (ts, 0, 0) ∧ ts.length = 3 ∧ flat ts = [60, 60, 61] := ⟨[⟨4, [60], 0, 0⟩, ⟨4, [60, 61], 0, 1⟩, ⟨0, [], 0, 3⟩], by decide +kernel, rfl, rfl⟩
  have HE := Lib.hid he
  have HT : Hid (Lx.toks (bs [60, 60, 61]).data.toList = (ts, 0, 0)) := ht
  have hln : (ts.length : Int) = 3 := by omega
  have HLN := Lib.hid hln
  have hx : ((bs (flat ts)).toList == [60, 60, 61]) = true := by rw [hfl]; exact beq_iff_eq.2 (Lib.toList_data _)
  have HX := Lib.hid hx
  have HLEN := Lib.hid hlen
  have HFL := Lib.hid hfl
  clear ht he hln hfl hx hlen
  go_enter Tryd.func8, Tryd.ntmps8
  go_wp2_with fail
  refine (tokens_at (bs [60, 60, 61]) (by decide) ts 0 0 HT.out _ (HE.out.below ?_)).mono ?_
  · exact ((Below.refl _ _).alloc (Nat.le_refl _) _).alloc (by simp) _
  rintro e w1 ⟨A, c, rfl, hl1, hb1⟩
  have hz : w.heap.size + 1 < w1.heap.size := by have := hb1.size; simp at this; omega
  have hz0 : w.heap.size < w1.heap.size := by omega
  obtain ⟨c0, c1⟩ := sg_cells hb1 11
  simp at c0 c1
  obtain ⟨g, rfl, hg, hc⟩ := hl1 (by intro h; have := congrArg List.length h; rw [cellsOf_len, List.length_nil] at this; have := HLEN.out; omega)
  have HC := Lib.hid hc
  clear hc
  go_wp2
  go_loop [7, 8] (fun s i => ∃ j : Nat, j ≤ 3 ∧ i = .int .i64 j ∧ s = .string (bs (flat (ts.take j)))) (fun _ i => 3 - (intOf i).toNat)
  case atStart => exact ⟨0, by omega, rfl, rfl⟩
  case round =>
    obtain ⟨j, hj, rfl, rfl⟩ := hrel
    by_cases hlt : j < 3
    · obtain ⟨t, ht⟩ : ∃ t, ts[j]? = some t := ⟨_, List.getElem?_eq_getElem (by have := HLEN.out; omega)⟩
      have ht1 := HC.out _ _ (tok_at ht).2.1
      have hjl : (j : Int) < (ts.length : Int) := by have := HLEN.out; omega
      have hsz : (bs (flat (ts.take j))).size + (bs t.text).size ≤ 9223372036854775807 := by
        have h1 := flat_len ts (j + 1)
        rw [flat_snoc ht, List.length_append, HFL.out] at h1
        rw [bs_size, bs_size]
        simp at h1
        omega
      have HJ := Lib.hid ht
      clear ht
      go_wp2
      refine ⟨⟨j + 1, by omega, by go_num, by rw [flat_snoc HJ.out, cat]⟩, ?_⟩
      simp [intOf]
      omega
    · have hjl : (ts.length : Int) ≤ (j : Int) := by have := HLEN.out; omega
      have hxx := HX.out
      have htk : flat (ts.take j) = flat ts := by rw [List.take_of_length_le (by omega)]
      have hln2 := HLN.out
      have hl3 : ((ts.length : Int) == 3) = true := beq_iff_eq.2 hln2
      have hl4 : (ts.length == 3) = true := beq_iff_eq.2 (by omega)
      rw [htk]
      have HTK := Lib.hid htk
      clear htk hln2
      have hb2 : Below w.heap.size w w1 := below_go ((Below.refl _ _).alloc (Nat.le_refl _) _) (below_go ((Below.refl _ _).alloc (Nat.le_refl _) _) hb1)
      go_wp2_with (go_at_call 12; refine (known_true _ (HE.out.below (hb2.alloc hb2.size _))).mono ?_; rintro e w3 ⟨rfl, hb3⟩)
      go_ret
      exact ⟨rfl, below_go (hb2.alloc hb2.size _) hb3⟩

set_option maxHeartbeats 1000000 in
theorem lexSigns_walk (n : Int) (_ : -9223372036854775808 ≤ n ∧ n ≤ 9223372036854775807) (w : World) (he : Env w) :
    Calls Tryd.prog 8 #[.int .i64 n] w fun e w' => e = .returned (.bool true) ∧ Below w.heap.size w w' := by
  by_cases h : 0 ≤ n ∧ n < 12
  · have hc : n = 0 ∨ n = 1 ∨ n = 2 ∨ n = 3 ∨ n = 4 ∨ n = 5 ∨ n = 6 ∨ n = 7 ∨ n = 8 ∨ n = 9 ∨ n = 10 ∨ n = 11 := by omega
    rcases hc with rfl | rfl | rfl | rfl | rfl | rfl | rfl | rfl | rfl | rfl | rfl | rfl
    · exact sg_0 w he
    · exact sg_1 w he
    · exact sg_2 w he
    · exact sg_3 w he
    · exact sg_4 w he
    · exact sg_5 w he
    · exact sg_6 w he
    · exact sg_7 w he
    · exact sg_8 w he
    · exact sg_9 w he
    · exact sg_10 w he
    · exact sg_11 w he
  · clear he
    by_cases h0 : n < 0
    · go_enter Tryd.func8, Tryd.ntmps8
      go_wp2
      go_ret
      exact ⟨rfl, ((Below.refl _ _).alloc (Nat.le_refl _) _).alloc (by simp) _⟩
    · have h1 : 12 ≤ n := by omega
      have h2 : 0 ≤ n := by omega
      go_enter Tryd.func8, Tryd.ntmps8
      go_wp2
      go_ret
      exact ⟨rfl, ((Below.refl _ _).alloc (Nat.le_refl _) _).alloc (by simp) _⟩
end Go.Proofs.YtconbldpomjgkaaDoor
