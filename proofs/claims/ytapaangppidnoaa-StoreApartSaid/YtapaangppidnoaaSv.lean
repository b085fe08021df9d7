/-
  The law on arrays being apart.
-/
import Derived.Test.YtapaangppidnoaaSu
namespace Go.Proofs.Ytapaangppidnoaa
open Go.RowKit

theorem app_cell (w : World) (u : Value) (U : TypeId) : ∀ (j : Nat) (x : Value), [u][j]? = some x → (w.alloc (.cells #[u] U)).cell? ((⟨w.heap.size, 0, none⟩ : Addr).add j) = some x :=
  new11 (heap_alloc_new w (.cells #[u] U))
theorem one_int (n : Int) : ∀ u ∈ [Value.int .i64 n], u.oneCell' = true := by
  intro u hu
  simp at hu
  subst hu
  rfl
set_option maxRecDepth 100000 in
set_option maxHeartbeats 4000000 in
theorem storeApart_walk (W : World) (l : List Int) (q : Option Addr) (c : Nat) (hl : RowAt NumIs 1 W q l) (_ : ∀ n ∈ l, I64 n) (_ : l.length ≤ reachBytes) (v : Int) (hv : I64 v) :
    Calls Try.prog 4 #[.slice q l.length c, .int .i64 v] W (LawP W) := by
  by_cases h30 : 30 < l.length
  · have hd : decide (30 < l.length) = true := decide_eq_true h30
    have hd2 : decide ((30 : Int) < (l.length : Int)) = true := decide_eq_true (by omega)
    clear hl hv
    go_enter Try.func4, Try.ntmps4
    go_wp2
    go_ret
    exact ⟨rfl, Below.refl _ _⟩
  · have hd : decide (30 < l.length) = false := decide_eq_false h30
    have hd2 : decide ((30 : Int) < (l.length : Int)) = false := decide_eq_false (by omega)
    have HL := Lib.hid hl
    have H30 := Lib.hid h30
    have HV := Lib.hid hv
    have HT := Lib.hid (Ap.new W)
    obtain ⟨i0, hi0, hz0, hz1, hz2⟩ := info_parts infoInt
    clear hl h30
    go_enter Try.func4, Try.ntmps4
    go_wp2_with (go_at_call 8; ((with_reducible refine (new_any _).mono ?_); rintro e w' ⟨rfl, rfl⟩))
    go_loopg [6, 7] l.length (fun n r i wr => ∃ j : Nat, n + j = l.length ∧ i = .int .i64 (j : Int) ∧ Ap W ((l.take j).map fun x => List.replicate (nn x) 0) r j wr)
    case atStart => exact ⟨0, rfl, rfl, HT.out⟩
    case round =>
      obtain ⟨j, hj, rfl, ht⟩ := hrel
      have HJ := Lib.hid hj
      have H := Lib.hid ht
      clear hj ht HT hd hd2
      cases gk with
      | zero =>
        have hd3 : decide (j < l.length) = false := decide_eq_false (by have := HJ.out; omega)
        obtain rfl : j = l.length := by have := HJ.out; omega
        have hz : ((l.take l.length).map fun x => List.replicate (nn x) (0 : Int)) = Lst l v 0 0 := by rw [List.take_length, lst_zero]
        rw [hz] at H
        clear hz HJ
        obtain ⟨q6, c6, rfl⟩ := H.out.slice
        go_wp2_with fail
        clear hd3
        go_loopg [10] l.length (fun n i wr => ∃ j : Nat, n + j = l.length ∧ i = .int .i64 (j : Int) ∧ Ap W (Lst l v j 0) (.slice q6 l.length c6) l.length wr)
        case atStart => exact ⟨0, rfl, rfl, H.out⟩
        case round =>
          obtain ⟨j, hj, rfl, ht⟩ := hrel
          have HJ := Lib.hid hj
          clear H
          have H := Lib.hid ht
          clear hj ht
          cases gk with
          | zero =>
            have hd3 : decide (j < l.length) = false := decide_eq_false (by have := HJ.out; omega)
            obtain rfl : j = l.length := by have := HJ.out; omega
            clear HJ
            go_wp2_with fail
            clear hd3
            go_loopg [12] l.length (fun n i wr => ∃ j : Nat, n + j = l.length ∧ i = .int .i64 (j : Int) ∧ Ap W (Lst l v l.length 0) (.slice q6 l.length c6) l.length wr)
            case atStart => exact ⟨0, rfl, rfl, H.out⟩
            case round =>
              obtain ⟨j, hj, rfl, ht⟩ := hrel
              have HJ := Lib.hid hj
              clear H
              have H := Lib.hid ht
              clear hj ht
              cases gk with
              | zero =>
                have hd3 : decide (j < l.length) = false := decide_eq_false (by have := HJ.out; omega)
                obtain rfl : j = l.length := by have := HJ.out; omega
                clear HJ
                go_wp2_with fail
                refine (manyA H.out (l.length : Int) (by rw [lst_len])).mono ?_
                rintro e w1 ⟨rfl, rfl⟩
                go_wp2_with fail
                refine (known_any _).mono ?_
                rintro e w1 ⟨rfl, h⟩
                have HK := Lib.hid h
                clear h
                go_wp2
                go_ret
                exact ⟨rfl, H.out.below.trans (HK.out.mono H.out.below.size)⟩
              | succ m =>
                have hjl : j < l.length := by have := HJ.out; omega
                have hd3 : decide (j < l.length) = true := decide_eq_true hjl
                have hj0 : (0 : Int) ≤ (j : Int) := by omega
                have hj1 : (j : Int) < (l.length : Int) := by omega
                have hj3 : (j : Int) < 30 := by have := H30.out; omega
                obtain ⟨x, hx⟩ : ∃ x, l[j]? = some x := ⟨_, List.getElem?_eq_getElem hjl⟩
                obtain ⟨bl, off, hq, hbl, hcell⟩ := HL.out.num hx
                subst hq
                have HC := Lib.hid hcell
                have HBL := Lib.hid hbl
                have hb := i64_and15 x
                have HX := Lib.hid hx
                clear hx hcell hbl
                go_upto_region 25 with fail
                obtain ⟨wo, hwo⟩ : ∃ wo, wo = wr := ⟨_, rfl⟩
                rw [← hwo] at H ⊢
                clear hwo
                go_wp2_with fail
                go_loopg [13] (nn x) (fun n i wr => ∃ k : Nat, n + k = nn x ∧ i = .int .i64 (k : Int) ∧ Ap W (Lst l v l.length 0) (.slice q6 l.length c6) l.length wr)
                case atStart => exact ⟨0, rfl, rfl, H.out⟩
                case round =>
                  obtain ⟨k, hk, rfl, ht⟩ := hrel
                  have HK := Lib.hid hk
                  clear H
                  have H := Lib.hid ht
                  clear hk ht
                  have c0 : wr.cell? ⟨bl, off + j, none⟩ = some (.int .i64 x) := (H.out.below.cell (p := ⟨bl, off + j, none⟩) HBL.out).trans HC.out
                  cases gk with
                  | zero =>
                    have hd4 : decide (k < nn x) = false := decide_eq_false (by have := HK.out; omega)
                    clear HK
                    go_wp2_with fail
                    go_roundg m
                    case measure => omega
                    case rel => exact ⟨j + 1, by have := HJ.out; omega, by go_num, H.out⟩
                  | succ n =>
                    have hkx : k < nn x := by have := HK.out; omega
                    have hd4 : decide (k < nn x) = true := decide_eq_true hkx
                    obtain ⟨g, cg, hg, cr⟩ := H.out.ref hjl
                    injection hg with hq6 _ hc6
                    subst hq6 hc6
                    have hk0 : (0 : Int) ≤ (k : Int) := by omega
                    have hk1 : (k : Int) < 15 := by have := nn_le x; omega
                    go_wp2_with fail
                    refine (loadA H.out _ _ (val v j k) 0 (by rw [lst_load HX.out v l.length 0 hkx, if_pos (.inl hjl)])).mono ?_
                    rintro e w1 ⟨rfl, rfl⟩
                    unfold val
                    go_wp2_with fail
                    go_roundg n
                    case measure => omega
                    case rel => exact ⟨k + 1, by have := HK.out; omega, by go_num, H.out⟩
          | succ m =>
            have hjl : j < l.length := by have := HJ.out; omega
            have hd3 : decide (j < l.length) = true := decide_eq_true hjl
            have hj0 : (0 : Int) ≤ (j : Int) := by omega
            have hj1 : (j : Int) < (l.length : Int) := by omega
            have hj3 : (j : Int) < 30 := by have := H30.out; omega
            obtain ⟨x, hx⟩ : ∃ x, l[j]? = some x := ⟨_, List.getElem?_eq_getElem hjl⟩
            obtain ⟨bl, off, hq, hbl, hcell⟩ := HL.out.num hx
            subst hq
            have HC := Lib.hid hcell
            have HBL := Lib.hid hbl
            have hb := i64_and15 x
            have HX := Lib.hid hx
            clear hx hcell hbl
            go_upto_region 17 with fail
            obtain ⟨wo, hwo⟩ : ∃ wo, wo = wr := ⟨_, rfl⟩
            rw [← hwo] at H ⊢
            clear hwo
            go_wp2_with fail
            go_loopg [11] (nn x) (fun n i wr => ∃ k : Nat, n + k = nn x ∧ i = .int .i64 (k : Int) ∧ Ap W (Lst l v j k) (.slice q6 l.length c6) l.length wr)
            case atStart => exact ⟨0, rfl, rfl, H.out⟩
            case round =>
              obtain ⟨k, hk, rfl, ht⟩ := hrel
              have HK := Lib.hid hk
              clear H
              have H := Lib.hid ht
              clear hk ht
              have c0 : wr.cell? ⟨bl, off + j, none⟩ = some (.int .i64 x) := (H.out.below.cell (p := ⟨bl, off + j, none⟩) HBL.out).trans HC.out
              cases gk with
              | zero =>
                have hd4 : decide (k < nn x) = false := decide_eq_false (by have := HK.out; omega)
                obtain rfl : k = nn x := by have := HK.out; omega
                rw [lst_next HX.out] at H
                go_wp2_with fail
                go_roundg m
                case measure => omega
                case rel => exact ⟨j + 1, by have := HJ.out; omega, by go_num, H.out⟩
              | succ n =>
                have hkx : k < nn x := by have := HK.out; omega
                have hd4 : decide (k < nn x) = true := decide_eq_true hkx
                obtain ⟨g, cg, hg, cr⟩ := H.out.ref hjl
                injection hg with hq6 _ hc6
                subst hq6 hc6
                have hk0 : (0 : Int) ≤ (k : Int) := by omega
                have hk1 : (k : Int) < 15 := by have := nn_le x; omega
                go_wp2_with fail
                refine (putA H.out _ _ (val v j k) 0 (by rw [lst_load HX.out v j k hkx])).mono ?_
                rintro e w1 ⟨rfl, h⟩
                rw [lst_put HX.out v hkx] at h
                have H1 := Lib.hid h
                clear h c0 cr
                go_wp2_with fail
                go_roundg n
                case measure => omega
                case rel => exact ⟨k + 1, by have := HK.out; omega, by go_num, H1.out⟩
      | succ m =>
        have hjl : j < l.length := by have := HJ.out; omega
        have hd3 : decide (j < l.length) = true := decide_eq_true hjl
        have hj0 : (0 : Int) ≤ (j : Int) := by omega
        have hj1 : (j : Int) < (l.length : Int) := by omega
        have hj3 : (j : Int) < 30 := by have := H30.out; omega
        obtain ⟨x, hx⟩ : ∃ x, l[j]? = some x := ⟨_, List.getElem?_eq_getElem hjl⟩
        obtain ⟨bl, off, hq, hbl, hcell⟩ := HL.out.num hx
        subst hq
        have c0 : wr.cell? ⟨bl, off + j, none⟩ = some (.int .i64 x) := (H.out.below.cell (p := ⟨bl, off + j, none⟩) hbl).trans hcell
        have hb := i64_and15 x
        have HX := Lib.hid hx
        clear hx hcell hbl
        have hlen : ((l.take j).map fun x => List.replicate (nn x) (0 : Int)).length = j := by rw [List.length_map, List.length_take]; omega
        have HLE := Lib.hid hlen
        clear hlen
        go_wp2_with fail
        refine (arrA H.out _ ((j : Int) + 1) (nn x) rfl (by have := nn_le x; omega) (by rw [HLE.out]; omega) (by rw [HLE.out])).mono ?_
        rintro e w1 ⟨rfl, h⟩
        have H1 := Lib.hid h
        clear h c0 hb
        obtain ⟨q6, c6, rfl⟩ := H1.out.slice
        have hml : ((l.take j).map fun x => List.replicate (nn x) (0 : Int)) ++ [List.replicate (nn x) 0] = (l.take (j + 1)).map fun x => List.replicate (nn x) (0 : Int) := by
          have hx' := HX.out
          rw [List.take_add_one, hx', List.map_append]
          rfl
        rw [hml] at H1
        clear hml
        obtain ⟨va, oa, hs, hca, hr, hxx, h0⟩ := H1.out
        have HR := Lib.hid hr
        clear hs hca hr hxx h0
        go_wp2_with (at_builtin; refine wpList_append_own_at _ rfl _ _ 39 rfl (W.heap.size + 1) 3 i0 (.int .i64 0) 1 8 Try.underlying39 hi0 hz0 hz1 hz2 rfl (by decide) (.slice q6 j c6) j (refV j) rfl (HR.out.alloc _) ⟨w1.heap.size, 0, none⟩ 1 1 [.int .i64 ((j : Int) + 1)] rfl rfl (app_cell _ _ _) (one_int _) (by unfold maxLen; omega) (by omega) (by rw [size_alloc]; have := H1.out.below.size; omega) ?_; intro v' w2 hown hgrow _ hat)
        have H2 := Lib.hid (H1.out.push hown hgrow (by rw [size_alloc] at hat; exact hat))
        clear hown hgrow hat
        go_roundg m
        case measure => omega
        case rel => exact ⟨j + 1, by have := HJ.out; omega, by go_num, H2.out⟩
end Go.Proofs.Ytapaangppidnoaa
