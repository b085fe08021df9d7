/-
  The law on sequences of operations.
-/
import Derived.Test.YtapaangppidnoaaSo
namespace Go.Proofs.Ytapaangppidnoaa
open Go.RowKit

theorem four_nums {x : List Int} (h : x.length = 4) : ∃ a b c d, x = [a, b, c, d] := by
  match x, h with
  | [a, b, c, d], _ => exact ⟨a, b, c, d, rfl⟩
theorem quad {w1 : World} {B : Nat} {T : TypeId} {c0 c1 c2 c3 : Value} (h : w1.heap[B]? = some (.cells #[c0, c1, c2, c3] T (0, 0))) :
    w1.cell? ⟨B, 0, none⟩ = some c0 ∧ w1.cell? ⟨B, 1, none⟩ = some c1 ∧ w1.cell? ⟨B, 2, none⟩ = some c2 ∧ w1.cell? ⟨B, 3, none⟩ = some c3 := by
  refine ⟨?_, ?_, ?_, ?_⟩ <;> (rw [cell_of_row _ _ _ _ _ _ h]; rfl)
/-- The argument. -/
theorem acts_of_trod {H : Type} {enc : TypeId × Value → H} {w : World} {sp : Nat → Bool} {held : Bool} {v : Value} {d : DataW H} {ps : List MemPlace} (h : DataW.Trod enc Try.prog w 0 sp held 22 v d ps) (hz : ∀ n ∈ d.weights Try.prog 22, n ≤ reachBytes) (hv : v.cells.toList = [v]) :
    ∃ (p : Option Addr) (c : Nat) (l : List (List Int)), v = .slice p l.length c ∧ RowAt NumsIs 4 w p l ∧ (∀ x ∈ l, x.length = 4) ∧ l.length ≤ 140737488355328 := by
  obtain ⟨p, c, l, h1, h2, h3, h4⟩ := numss_of_trod Try.underlying22 Try.underlying30 (by kernel_rfl) (by kernel_rfl) (by kernel_rfl) (by decide) h hz hv
  rw [show Try.prog.bytesOf 30 = 32 by kernel_rfl, reachBytes] at h4
  exact ⟨p, c, l, h1, h2, fun x hx => (h3 x hx).1, by omega⟩
set_option maxRecDepth 100000 in
set_option maxHeartbeats 4000000 in
theorem storePlays_walk (W : World) (l : List (List Int)) (q : Option Addr) (c : Nat) (hl : RowAt NumsIs 4 W q l) (h4 : ∀ x ∈ l, x.length = 4) (hm : l.length ≤ 140737488355328) :
    Calls Try.prog 3 #[.slice q l.length c] W (LawP W) := by
  have HL := Lib.hid hl
  have H4 := Lib.hid h4
  have HT := Lib.hid (Two.new W)
  obtain ⟨N, hN⟩ : ∃ N, N = min l.length 200 := ⟨_, rfl⟩
  have HN := Lib.hid hN
  clear hl h4 hN
  go_enter Try.func3, Try.ntmps3
  go_wp2_with (go_at_call 8; ((with_reducible refine (new_any _).mono ?_); rintro e w' ⟨rfl, rfl⟩))
  go_loopg [5] N (fun n i wr => ∃ (j : Nat) (L : List (List Int)), n + j = N ∧ i = .int .i64 (j : Int) ∧ L.length ≤ j ∧ Two W [] L L wr)
  case atStart => exact ⟨0, [], rfl, rfl, Nat.le_refl _, HT.out⟩
  case round =>
    obtain ⟨j, L, hj, rfl, hLj, ht⟩ := hrel
    have HJ := Lib.hid hj
    have HLJ := Lib.hid hLj
    have H := Lib.hid ht
    clear hj hLj ht HT
    cases gk with
    | zero =>
      have hjN : j = N := by have := HJ.out; omega
      have hd : decide (j < l.length) = false ∨ (decide (j < l.length) = true ∧ decide ((j : Int) < 200) = false) := by
        have := HN.out
        by_cases h : j < l.length
        · exact .inr ⟨decide_eq_true (by omega), decide_eq_false (by omega)⟩
        · exact .inl (decide_eq_false (by omega))
      clear hjN
      rcases hd with hd | ⟨hd, hd2⟩
      all_goals
        go_wp2_with (go_at_call 20; ((with_reducible refine (known_any _).mono ?_); rintro e w' ⟨rfl, hk⟩; have HK := Lib.hid hk; clear hk))
        go_ret
        exact ⟨rfl, H.out.below.trans (HK.out.mono H.out.below.size)⟩
    | succ m =>
      have hjl : j < l.length ∧ j < 200 := by have := HJ.out; have := HN.out; omega
      obtain ⟨hjl, hj2⟩ := hjl
      have hd : decide ((j : Int) < (l.length : Int)) = true := decide_eq_true (by omega)
      have hd2 : decide ((j : Int) < 200) = true := decide_eq_true (by omega)
      have hj0 : (0 : Int) ≤ (j : Int) := by omega
      have hj1 : (j : Int) < (l.length : Int) := by omega
      have hx : l[j]? = some l[j] := List.getElem?_eq_getElem hjl
      obtain ⟨kd, a, b, x, hx4⟩ := four_nums (H4.out l[j] (List.getElem_mem hjl))
      rw [hx4] at hx
      obtain ⟨bl, off, hq, hbl, hcell⟩ := HL.out.nums hx
      subst hq
      have hb := H.out.below
      have c0 : wr.cell? ⟨bl, off + j * 4, none⟩ = some (.int .i64 kd) := (hb.cell (p := ⟨bl, off + j * 4, none⟩) hbl).trans (hcell 0 _ (by decide) rfl)
      have c1 : wr.cell? ⟨bl, off + j * 4 + 1, none⟩ = some (.int .i64 a) := (hb.cell (p := ⟨bl, off + j * 4 + 1, none⟩) hbl).trans (hcell 1 _ (by decide) rfl)
      have c2 : wr.cell? ⟨bl, off + j * 4 + 2, none⟩ = some (.int .i64 b) := (hb.cell (p := ⟨bl, off + j * 4 + 2, none⟩) hbl).trans (hcell 2 _ (by decide) rfl)
      have c3 : wr.cell? ⟨bl, off + j * 4 + 3, none⟩ = some (.int .i64 x) := (hb.cell (p := ⟨bl, off + j * 4 + 3, none⟩) hbl).trans (hcell 3 _ (by decide) rfl)
      clear hx hx4 hcell hb
      go_upto_region 8 with fail
      obtain ⟨wa, hwa⟩ : ∃ wa, wa = wr.alloc (.cells #[.int .i64 kd, .int .i64 a, .int .i64 b, .int .i64 x] 30) := ⟨_, rfl⟩
      have HA := Lib.hid (show Two W [(wr.heap.size, .cells #[.int .i64 kd, .int .i64 a, .int .i64 b, .int .i64 x] 30 (0, 0))] L L wa by rw [hwa]; exact H.out.add _ _)
      rw [← hwa]
      obtain ⟨g, hg⟩ : ∃ g, g = wr.heap.size := ⟨_, rfl⟩
      rw [← hg] at HA ⊢
      clear c0 c1 c2 c3 hwa hg H hbl hd hd2 hj0 hj1
      obtain ⟨b0, b1, b2, b3⟩ := quad HA.out.kept
      have HD := Lib.hid (HA.out.go (Below.refl _ _).drew)
      by_cases k0 : kd = 0
      · subst k0
        go_upto_region 13 with fail
        go_region_held3 (fun w' => w'.cell? ⟨g, 1, none⟩ = some (.int .i64 a)) (go_keep) (first
          | (go_at_call 9; (with_reducible refine (recP HD.out a (by have := HLJ.out; omega)).mono ?_); rintro e w1 ⟨rfl, h⟩; have H1 := Lib.hid h; clear h; obtain ⟨-, d1, -, -⟩ := quad H1.out.kept)
          | (go_at_call 10; (with_reducible refine (recQ H1.out a (by have := HLJ.out; omega)).mono ?_); rintro e w2 ⟨rfl, h⟩; have H2 := Lib.hid h; clear h; obtain ⟨e0, e1, e2, e3⟩ := quad H2.out.kept))
        clear d1 e0 e1 e2 e3
        obtain ⟨qm, cm, hbox⟩ := H2.out.box
        go_upto_region 22 with fail
        go_quiet ((go_at_call 19; exact many_quiet H2.out _))
        go_wp2
        go_roundg m
        case measure => omega
        case rel => exact ⟨j + 1, _, by have := HJ.out; omega, by go_num, by have := HLJ.out; simp; omega, H2.out.next _⟩
      · have n0 : (kd == 0) = false := by simp [k0]
        by_cases k1 : kd = 1
        · subst k1
          go_wp2_with fail
          refine (arrTP HA.out a (by have := HLJ.out; omega)).mono ?_
          rintro e w1 ⟨rfl, h⟩
          have H1 := Lib.hid h
          clear h b0 b1 b2 b3
          obtain ⟨b0, b1, b2, b3⟩ := quad H1.out.kept
          go_wp2_with fail
          refine (arrTQ H1.out a (by have := HLJ.out; omega)).mono ?_
          rintro e w2 ⟨rfl, h⟩
          have HZ := Lib.hid h
          clear h b0 b1 b2 b3
          obtain ⟨qm, cm, hbox⟩ := HZ.out.box
          go_upto_region 22 with fail
          go_quiet ((go_at_call 19; exact many_quiet HZ.out _))
          go_wp2
          go_roundg m
          case measure => omega
          case rel => exact ⟨j + 1, _, by have := HJ.out; omega, by go_num, by have := HLJ.out; have := arr_len L a; omega, HZ.out.next _⟩
        · have n1 : (kd == 1) = false := by simp [k1]
          by_cases k2 : kd = 2
          · subst k2
            go_wp2_with fail
            refine (loadTP HA.out a b).mono ?_
            rintro e w1 ⟨rfl, rfl⟩
            go_wp2_with fail
            refine (loadTQ HA.out a b).mono ?_
            rintro e w1 ⟨rfl, rfl⟩
            have HZ := HA
            obtain ⟨qm, cm, hbox⟩ := HZ.out.box
            go_upto_region 22 with fail
            go_quiet ((go_at_call 19; exact many_quiet HZ.out _))
            go_wp2
            go_roundg m
            case measure => omega
            case rel => exact ⟨j + 1, _, by have := HJ.out; omega, by go_num, by have := HLJ.out; omega, HZ.out.next _⟩
          · have n2 : (kd == 2) = false := by simp [k2]
            by_cases k3 : kd = 3
            · subst k3
              go_upto_region 21 with fail
              go_region_held3 (fun w' => w'.cell? ⟨g, 1, none⟩ = some (.int .i64 a) ∧ w'.cell? ⟨g, 2, none⟩ = some (.int .i64 b) ∧ w'.cell? ⟨g, 3, none⟩ = some (.int .i64 x)) (go_keep) (first
                | (go_at_call 15; (with_reducible refine (putTP HD.out a b x).mono ?_); rintro e w1 ⟨rfl, h⟩; have H1 := Lib.hid h; clear h; obtain ⟨d0, d1, d2, d3⟩ := quad H1.out.kept)
                | (go_at_call 16; (with_reducible refine (putTQ H1.out a b x).mono ?_); rintro e w2 ⟨rfl, h⟩; have HZ := Lib.hid h; clear h; obtain ⟨e0, e1, e2, e3⟩ := quad HZ.out.kept))
              clear d0 d1 d2 d3 e0 e1 e2 e3
              obtain ⟨qm, cm, hbox⟩ := HZ.out.box
              go_upto_region 22 with fail
              go_quiet ((go_at_call 19; exact many_quiet HZ.out _))
              go_wp2
              go_roundg m
              case measure => omega
              case rel => exact ⟨j + 1, _, by have := HJ.out; omega, by go_num, by have := HLJ.out; have := put_len L a b x; omega, HZ.out.next _⟩
            · have n3 : (kd == 3) = false := by simp [k3]
              go_wp2_with fail
              refine (lenTP HA.out a).mono ?_
              rintro e w1 ⟨rfl, rfl⟩
              go_wp2_with fail
              refine (lenTQ HA.out a).mono ?_
              rintro e w1 ⟨rfl, rfl⟩
              have HZ := HA
              obtain ⟨qm, cm, hbox⟩ := HZ.out.box
              go_upto_region 22 with fail
              go_quiet ((go_at_call 19; exact many_quiet HZ.out _))
              go_wp2
              go_roundg m
              case measure => omega
              case rel => exact ⟨j + 1, _, by have := HJ.out; omega, by go_num, by have := HLJ.out; omega, HZ.out.next _⟩
end Go.Proofs.Ytapaangppidnoaa
