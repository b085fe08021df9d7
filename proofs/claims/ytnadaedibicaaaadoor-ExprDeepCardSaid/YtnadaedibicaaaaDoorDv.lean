/-
  ExprDeep's walk where its numbers are in range.
-/
import Derived.Test.YtnadaedibicaaaaDoorDu
import Derived.Test.YtnadaedibicaaaaDoorBj
import Derived.RegionTactic
namespace Go.Proofs.YtnadaedibicaaaaDoor
open Go.RowKit
open Px (RT tokAt)
open Pe

theorem OpsIn.below {w w' : World} (h : OpsIn w) (hb : Below w.heap.size w w') : OpsIn w' := by obtain ⟨gt, gfr, hg⟩ := h; exact ⟨gt, gfr, (hb.block _ (heap_lt' hg)).trans hg⟩
theorem dec_sub (o : Nat) : max (50 - (o : Int)) 0 = ((50 - clamp o).toNat : Int) := by unfold clamp; omega

set_option maxRecDepth 8000 in
set_option maxHeartbeats 4000000 in
theorem deep_in0 (w : World) (n o : Nat) (hn : n ≤ 60) (ho : o ≤ 60) (hops : OpsIn w) :
    Calls Tryd.prog 6 #[.int .i64 (n : Int), .int .i64 0, .int .i64 (o : Int)] w fun e w' => e = .returned (.bool true) ∧ Below w.heap.size w w' := by
  have hd1 : decide ((n : Int) < 0) = false := decide_eq_false (by omega)
  have hd2 : decide ((60 : Int) < (n : Int)) = false := decide_eq_false (by omega)
  have hd5 : decide ((o : Int) < 0) = false := decide_eq_false (by omega)
  have hd6 : decide ((60 : Int) < (o : Int)) = false := decide_eq_false (by omega)
  have hd2' : decide (60 < n) = false := decide_eq_false (by omega)
  have hd6' : decide (60 < o) = false := decide_eq_false (by omega)
  have HOPS := Lib.hid hops
  clear hops
  go_enter Tryd.func6, Tryd.ntmps6
  go_wp2_with fail
  go_region
  · obtain ⟨W0, hW0⟩ : ∃ W0, W0 = ((w.alloc (.cells #[.string ⟨#[45]⟩, .string ⟨#[40]⟩, .string ⟨#[102, 40]⟩, .string ⟨#[120, 91]⟩] 9)).alloc (.cells #[.string ⟨#[]⟩, .string ⟨#[41]⟩, .string ⟨#[41]⟩, .string ⟨#[93]⟩] 9)).drew := ⟨_, rfl⟩
    rw [← hW0]
    have hbz : Below w.heap.size w W0 := by rw [hW0]; exact (((Below.refl _ _).alloc (Nat.le_refl _) _).alloc (by rw [size_alloc]; omega) _).drew
    have HBZ := Lib.hid hbz
    have HOW : Hid (OpsIn W0) := by obtain ⟨gt, gfr, hg⟩ := HOPS.out; exact ⟨gt, gfr, (hbz.block _ (heap_lt' hg)).trans hg⟩
    clear hW0 hbz HOPS
    go_wp2
    go_loopw [9, 10, 11] (fun s t i wr => ∃ j : Nat, j ≤ n ∧ i = .int .i64 j ∧ s = .string (cbs (dpS 0 j)) ∧ t = .string (cbs (dpE 0 j)) ∧ wr = W0) (fun _ _ i _ => n - (intOf i).toNat)
    case atStart => exact ⟨0, Nat.zero_le _, rfl, rfl, rfl, rfl⟩
    case round =>
      obtain ⟨j, hj, rfl, rfl, rfl, rfl⟩ := hrel
      have z1 := dpS_len 0 j
      have z2 := dpE_len 0 j
      by_cases hlt : j < n
      · have b1 : ∀ w', (Op.stringOp .add (cbs (dpS 0 j)) ⟨#[45]⟩).run Tryd.prog w' = .ok (.string (cbs (dpS 0 (j + 1)))) w' := fun w' => by rw [← dpS_succ]; exact cat_run _ _ (by rw [cbs_size]; show _ + 1 ≤ _; omega) w'
        have b2 : ∀ w', (Op.stringOp .add (cbs (dpE 0 j)) ⟨#[]⟩).run Tryd.prog w' = .ok (.string (cbs (dpE 0 (j + 1)))) w' := fun w' => by rw [← dpE_succ]; exact cat_run _ _ (by rw [cbs_size]; show _ + 0 ≤ _; omega) w'
        have hji : (j : Int) < (n : Int) := by omega
        go_wp2_with fail
        refine ⟨⟨j + 1, by omega, by go_num, by trivial, by trivial, by trivial⟩, ?_⟩
        simp [intOf]
        omega
      · obtain rfl : j = n := by omega
        have hji : ¬ (j : Int) < (j : Int) := by omega
        have b3 : ∀ w', (Op.stringOp .add (cbs (dpS 0 j)) (cbs (dpE 0 j))).run Tryd.prog w' = .ok (.string (cbs (dpT 0 j))) w' := fun w' => by rw [show dpT 0 j = dpS 0 j ++ dpE 0 j from rfl, ← cbs_add]; exact cat_run _ _ (by rw [cbs_size, cbs_size]; omega) w'
        have hsz : (cbs (dpT 0 j)).size ≤ maxLen := by
          rw [cbs_size, dpT, List.length_append]
          unfold maxLen
          omega
        have hX := dp_at (w := 0) (by decide) hn
        obtain ⟨m, hm⟩ : ∃ m, m = aW 0 * j + 1 + cW 0 * j := ⟨_, rfl⟩
        have hlen : (dpX 0 j).length = m + 1 := by rw [hm]; exact dp_len 0 j
        have HTK := Lib.hid (fun w1 => tokens_are (cbs (dpT 0 j)) hsz (dpX 0 j) 0 0 (by rw [show (cbs (dpT 0 j)).data.toList = dpT 0 j by simp [cbs]]; exact hX) w1)
        have ha := (aW_le 0).2
        have hb := Nat.mul_le_mul_right j ha
        have hc : cW 0 * j ≤ 1 * j := Nat.mul_le_mul_right _ (by decide)
        have hm2 : m ≤ 200 := by omega
        have HM := Lib.hid hm
        have HLEN := Lib.hid hlen
        rw [hlen] at HTK
        clear hX z1 z2 hsz hlen hm ha hb hc
        go_wp2_with (go_at_call 8; refine (HTK.out _).mono ?_; rintro e w1 ⟨TA, tc, rfl, hl1, hb1⟩; have HB1 := Lib.hid hb1; have HLI := Lib.hid hl1; clear hb1 hl1)
        obtain ⟨wa, hwa⟩ : ∃ wa, wa = w1.alloc (.cells #[.int .i64 0, .int .i64 0] 25) := ⟨_, rfl⟩
        rw [← hwa]
        have hba : Below w1.heap.size w1 wa := by rw [hwa]; exact (Below.refl _ _).alloc (Nat.le_refl _) _
        have hbr := below_seq HB1.out hba HB1.out.size
        have HBR := Lib.hid hbr
        have HT := Lib.hid (((toks_of (c := tc) HLI.out dp_short).below hba).re2)
        rw [HLEN.out] at HT
        have HBR2 : Hid (Below w.heap.size w wa) := below_seq HBZ.out hbr HBZ.out.size
        have HOA : Hid (OpsIn wa) := by obtain ⟨gt, gfr, hg⟩ := HOW.out; exact ⟨gt, gfr, (hbr.block _ (heap_lt' hg)).trans hg⟩
        clear hwa hba hbr HLI HTK HB1 HBZ HOW
        by_cases hle : j = 0 ∨ o + j ≤ 50
        · obtain ⟨pe, hp⟩ := parse_live (dp_nest (w := 0) (n := j)) (by decide) hn (o : Int) (by omega) (by omega)
          rw [← HM.out] at hp
          refine (parse_any wa wa.heap.size _ ((dpX 0 j).map toRT) 0 o HT.out HOA.out 1000 (by decide) _ hp).mono ?_
          rintro e w2 ⟨xk, xn, xs, xo, xd, xp, xl, xc, xa, xb, xr, xe, xf, rfl, -, hb2⟩
          have HB2 : Hid (Below w.heap.size w w2) := below_seq HBR2.out hb2 HBR2.out.size
          have HO2 : Hid (OpsIn w2) := by obtain ⟨gt, gfr, hg⟩ := HOA.out; exact ⟨gt, gfr, (hb2.block _ (heap_lt' hg)).trans hg⟩
          clear hb2 hp
          have ht1 : ((j == 0) || decide ((j : Int) + (o : Int) ≤ 50)) = true := by rcases hle with h | h <;> simp [h] <;> omega
          go_wp2_with fail
          all_goals (refine (known_any _ ((HO2.out.below ((Below.refl _ _).alloc (Nat.le_refl _) _)).below ((Below.refl _ _).alloc (Nat.le_refl _) _))).mono ?_; rintro e w4 ⟨rfl, hb4⟩)
          all_goals (go_wp2_with fail; go_ret; exact ⟨rfl, below_seq ((HB2.out.alloc HB2.out.size _).alloc (by rw [size_alloc]; have := HB2.out.size; omega) _) hb4 (by rw [size_alloc, size_alloc]; have := HB2.out.size; omega)⟩)
        · obtain ⟨pe, hp⟩ := parse_dead (dp_nest (w := 0) (n := j)) (by decide) hn (o : Int) (by omega) (by omega) (by omega)
          have hcl : (50 - clamp (o : Int)).toNat ≤ 50 := by unfold clamp; omega
          have hds := dec_sub o
          obtain ⟨c, hc⟩ : ∃ c, c = (50 - clamp (o : Int)).toNat := ⟨_, rfl⟩
          rw [← hc] at hp hcl hds
          have hx : ((aW 0 * c + (aW 0 - 1) : Nat) : Int) = (c : Int) * 1 + 1 - 1 := by rw [show aW 0 = 1 from rfl]; omega
          rw [hx] at hp
          refine (parse_any wa wa.heap.size _ ((dpX 0 j).map toRT) 0 o HT.out HOA.out 1000 (by decide) _ hp).mono ?_
          rintro e w2 ⟨xk, xn, xs, xo, xd, xp, xl, xc, xa, xb, xr, xe, xf, rfl, -, hb2⟩
          have HB2 : Hid (Below w.heap.size w w2) := below_seq HBR2.out hb2 HBR2.out.size
          have HO2 : Hid (OpsIn w2) := by obtain ⟨gt, gfr, hg⟩ := HOA.out; exact ⟨gt, gfr, (hb2.block _ (heap_lt' hg)).trans hg⟩
          clear hb2 hp hc
          have ht0 : ((j : Int) == 0) = false := by simp; omega
          have ht1 : decide ((j : Int) + (o : Int) ≤ 50) = false := decide_eq_false (by omega)
          have ht2 : ¬ j = 0 := by omega
          have hG := eqGuardFault
          go_wp2_with fail
          refine (known_any _ ((HO2.out.below ((Below.refl _ _).alloc (Nat.le_refl _) _)).below ((Below.refl _ _).alloc (Nat.le_refl _) _))).mono ?_
          rintro e w4 ⟨rfl, hb4⟩
          go_wp2_with fail
          go_ret
          exact ⟨rfl, below_seq ((HB2.out.alloc HB2.out.size _).alloc (by rw [size_alloc]; have := HB2.out.size; omega) _) hb4 (by rw [size_alloc, size_alloc]; have := HB2.out.size; omega)⟩
  · obtain ⟨W0, hW0⟩ : ∃ W0, W0 = ((w.alloc (.cells #[.string ⟨#[]⟩, .string ⟨#[41]⟩, .string ⟨#[41]⟩, .string ⟨#[93]⟩] 9)).alloc (.cells #[.string ⟨#[45]⟩, .string ⟨#[40]⟩, .string ⟨#[102, 40]⟩, .string ⟨#[120, 91]⟩] 9)).drew := ⟨_, rfl⟩
    rw [← hW0]
    have hbz : Below w.heap.size w W0 := by rw [hW0]; exact (((Below.refl _ _).alloc (Nat.le_refl _) _).alloc (by rw [size_alloc]; omega) _).drew
    have HBZ := Lib.hid hbz
    have HOW : Hid (OpsIn W0) := by obtain ⟨gt, gfr, hg⟩ := HOPS.out; exact ⟨gt, gfr, (hbz.block _ (heap_lt' hg)).trans hg⟩
    clear hW0 hbz HOPS
    go_wp2
    go_loopw [9, 10, 11] (fun s t i wr => ∃ j : Nat, j ≤ n ∧ i = .int .i64 j ∧ s = .string (cbs (dpS 0 j)) ∧ t = .string (cbs (dpE 0 j)) ∧ wr = W0) (fun _ _ i _ => n - (intOf i).toNat)
    case atStart => exact ⟨0, Nat.zero_le _, rfl, rfl, rfl, rfl⟩
    case round =>
      obtain ⟨j, hj, rfl, rfl, rfl, rfl⟩ := hrel
      have z1 := dpS_len 0 j
      have z2 := dpE_len 0 j
      by_cases hlt : j < n
      · have b1 : ∀ w', (Op.stringOp .add (cbs (dpS 0 j)) ⟨#[45]⟩).run Tryd.prog w' = .ok (.string (cbs (dpS 0 (j + 1)))) w' := fun w' => by rw [← dpS_succ]; exact cat_run _ _ (by rw [cbs_size]; show _ + 1 ≤ _; omega) w'
        have b2 : ∀ w', (Op.stringOp .add (cbs (dpE 0 j)) ⟨#[]⟩).run Tryd.prog w' = .ok (.string (cbs (dpE 0 (j + 1)))) w' := fun w' => by rw [← dpE_succ]; exact cat_run _ _ (by rw [cbs_size]; show _ + 0 ≤ _; omega) w'
        have hji : (j : Int) < (n : Int) := by omega
        go_wp2_with fail
        refine ⟨⟨j + 1, by omega, by go_num, by trivial, by trivial, by trivial⟩, ?_⟩
        simp [intOf]
        omega
      · obtain rfl : j = n := by omega
        have hji : ¬ (j : Int) < (j : Int) := by omega
        have b3 : ∀ w', (Op.stringOp .add (cbs (dpS 0 j)) (cbs (dpE 0 j))).run Tryd.prog w' = .ok (.string (cbs (dpT 0 j))) w' := fun w' => by rw [show dpT 0 j = dpS 0 j ++ dpE 0 j from rfl, ← cbs_add]; exact cat_run _ _ (by rw [cbs_size, cbs_size]; omega) w'
        have hsz : (cbs (dpT 0 j)).size ≤ maxLen := by
          rw [cbs_size, dpT, List.length_append]
          unfold maxLen
          omega
        have hX := dp_at (w := 0) (by decide) hn
        obtain ⟨m, hm⟩ : ∃ m, m = aW 0 * j + 1 + cW 0 * j := ⟨_, rfl⟩
        have hlen : (dpX 0 j).length = m + 1 := by rw [hm]; exact dp_len 0 j
        have HTK := Lib.hid (fun w1 => tokens_are (cbs (dpT 0 j)) hsz (dpX 0 j) 0 0 (by rw [show (cbs (dpT 0 j)).data.toList = dpT 0 j by simp [cbs]]; exact hX) w1)
        have ha := (aW_le 0).2
        have hb := Nat.mul_le_mul_right j ha
        have hc : cW 0 * j ≤ 1 * j := Nat.mul_le_mul_right _ (by decide)
        have hm2 : m ≤ 200 := by omega
        have HM := Lib.hid hm
        have HLEN := Lib.hid hlen
        rw [hlen] at HTK
        clear hX z1 z2 hsz hlen hm ha hb hc
        go_wp2_with (go_at_call 8; refine (HTK.out _).mono ?_; rintro e w1 ⟨TA, tc, rfl, hl1, hb1⟩; have HB1 := Lib.hid hb1; have HLI := Lib.hid hl1; clear hb1 hl1)
        obtain ⟨wa, hwa⟩ : ∃ wa, wa = w1.alloc (.cells #[.int .i64 0, .int .i64 0] 25) := ⟨_, rfl⟩
        rw [← hwa]
        have hba : Below w1.heap.size w1 wa := by rw [hwa]; exact (Below.refl _ _).alloc (Nat.le_refl _) _
        have hbr := below_seq HB1.out hba HB1.out.size
        have HBR := Lib.hid hbr
        have HT := Lib.hid (((toks_of (c := tc) HLI.out dp_short).below hba).re2)
        rw [HLEN.out] at HT
        have HBR2 : Hid (Below w.heap.size w wa) := below_seq HBZ.out hbr HBZ.out.size
        have HOA : Hid (OpsIn wa) := by obtain ⟨gt, gfr, hg⟩ := HOW.out; exact ⟨gt, gfr, (hbr.block _ (heap_lt' hg)).trans hg⟩
        clear hwa hba hbr HLI HTK HB1 HBZ HOW
        by_cases hle : j = 0 ∨ o + j ≤ 50
        · obtain ⟨pe, hp⟩ := parse_live (dp_nest (w := 0) (n := j)) (by decide) hn (o : Int) (by omega) (by omega)
          rw [← HM.out] at hp
          refine (parse_any wa wa.heap.size _ ((dpX 0 j).map toRT) 0 o HT.out HOA.out 1000 (by decide) _ hp).mono ?_
          rintro e w2 ⟨xk, xn, xs, xo, xd, xp, xl, xc, xa, xb, xr, xe, xf, rfl, -, hb2⟩
          have HB2 : Hid (Below w.heap.size w w2) := below_seq HBR2.out hb2 HBR2.out.size
          have HO2 : Hid (OpsIn w2) := by obtain ⟨gt, gfr, hg⟩ := HOA.out; exact ⟨gt, gfr, (hb2.block _ (heap_lt' hg)).trans hg⟩
          clear hb2 hp
          have ht1 : ((j == 0) || decide ((j : Int) + (o : Int) ≤ 50)) = true := by rcases hle with h | h <;> simp [h] <;> omega
          go_wp2_with fail
          all_goals (refine (known_any _ ((HO2.out.below ((Below.refl _ _).alloc (Nat.le_refl _) _)).below ((Below.refl _ _).alloc (Nat.le_refl _) _))).mono ?_; rintro e w4 ⟨rfl, hb4⟩)
          all_goals (go_wp2_with fail; go_ret; exact ⟨rfl, below_seq ((HB2.out.alloc HB2.out.size _).alloc (by rw [size_alloc]; have := HB2.out.size; omega) _) hb4 (by rw [size_alloc, size_alloc]; have := HB2.out.size; omega)⟩)
        · obtain ⟨pe, hp⟩ := parse_dead (dp_nest (w := 0) (n := j)) (by decide) hn (o : Int) (by omega) (by omega) (by omega)
          have hcl : (50 - clamp (o : Int)).toNat ≤ 50 := by unfold clamp; omega
          have hds := dec_sub o
          obtain ⟨c, hc⟩ : ∃ c, c = (50 - clamp (o : Int)).toNat := ⟨_, rfl⟩
          rw [← hc] at hp hcl hds
          have hx : ((aW 0 * c + (aW 0 - 1) : Nat) : Int) = (c : Int) * 1 + 1 - 1 := by rw [show aW 0 = 1 from rfl]; omega
          rw [hx] at hp
          refine (parse_any wa wa.heap.size _ ((dpX 0 j).map toRT) 0 o HT.out HOA.out 1000 (by decide) _ hp).mono ?_
          rintro e w2 ⟨xk, xn, xs, xo, xd, xp, xl, xc, xa, xb, xr, xe, xf, rfl, -, hb2⟩
          have HB2 : Hid (Below w.heap.size w w2) := below_seq HBR2.out hb2 HBR2.out.size
          have HO2 : Hid (OpsIn w2) := by obtain ⟨gt, gfr, hg⟩ := HOA.out; exact ⟨gt, gfr, (hb2.block _ (heap_lt' hg)).trans hg⟩
          clear hb2 hp hc
          have ht0 : ((j : Int) == 0) = false := by simp; omega
          have ht1 : decide ((j : Int) + (o : Int) ≤ 50) = false := decide_eq_false (by omega)
          have ht2 : ¬ j = 0 := by omega
          have hG := eqGuardFault
          go_wp2_with fail
          refine (known_any _ ((HO2.out.below ((Below.refl _ _).alloc (Nat.le_refl _) _)).below ((Below.refl _ _).alloc (Nat.le_refl _) _))).mono ?_
          rintro e w4 ⟨rfl, hb4⟩
          go_wp2_with fail
          go_ret
          exact ⟨rfl, below_seq ((HB2.out.alloc HB2.out.size _).alloc (by rw [size_alloc]; have := HB2.out.size; omega) _) hb4 (by rw [size_alloc, size_alloc]; have := HB2.out.size; omega)⟩

set_option maxRecDepth 8000 in
set_option maxHeartbeats 4000000 in
theorem deep_in1 (w : World) (n o : Nat) (hn : n ≤ 60) (ho : o ≤ 60) (hops : OpsIn w) :
    Calls Tryd.prog 6 #[.int .i64 (n : Int), .int .i64 1, .int .i64 (o : Int)] w fun e w' => e = .returned (.bool true) ∧ Below w.heap.size w w' := by
  have hd1 : decide ((n : Int) < 0) = false := decide_eq_false (by omega)
  have hd2 : decide ((60 : Int) < (n : Int)) = false := decide_eq_false (by omega)
  have hd5 : decide ((o : Int) < 0) = false := decide_eq_false (by omega)
  have hd6 : decide ((60 : Int) < (o : Int)) = false := decide_eq_false (by omega)
  have hd2' : decide (60 < n) = false := decide_eq_false (by omega)
  have hd6' : decide (60 < o) = false := decide_eq_false (by omega)
  have HOPS := Lib.hid hops
  clear hops
  go_enter Tryd.func6, Tryd.ntmps6
  go_wp2_with fail
  go_region
  · obtain ⟨W0, hW0⟩ : ∃ W0, W0 = ((w.alloc (.cells #[.string ⟨#[45]⟩, .string ⟨#[40]⟩, .string ⟨#[102, 40]⟩, .string ⟨#[120, 91]⟩] 9)).alloc (.cells #[.string ⟨#[]⟩, .string ⟨#[41]⟩, .string ⟨#[41]⟩, .string ⟨#[93]⟩] 9)).drew := ⟨_, rfl⟩
    rw [← hW0]
    have hbz : Below w.heap.size w W0 := by rw [hW0]; exact (((Below.refl _ _).alloc (Nat.le_refl _) _).alloc (by rw [size_alloc]; omega) _).drew
    have HBZ := Lib.hid hbz
    have HOW : Hid (OpsIn W0) := by obtain ⟨gt, gfr, hg⟩ := HOPS.out; exact ⟨gt, gfr, (hbz.block _ (heap_lt' hg)).trans hg⟩
    clear hW0 hbz HOPS
    go_wp2
    go_loopw [9, 10, 11] (fun s t i wr => ∃ j : Nat, j ≤ n ∧ i = .int .i64 j ∧ s = .string (cbs (dpS 1 j)) ∧ t = .string (cbs (dpE 1 j)) ∧ wr = W0) (fun _ _ i _ => n - (intOf i).toNat)
    case atStart => exact ⟨0, Nat.zero_le _, rfl, rfl, rfl, rfl⟩
    case round =>
      obtain ⟨j, hj, rfl, rfl, rfl, rfl⟩ := hrel
      have z1 := dpS_len 1 j
      have z2 := dpE_len 1 j
      by_cases hlt : j < n
      · have b1 : ∀ w', (Op.stringOp .add (cbs (dpS 1 j)) ⟨#[40]⟩).run Tryd.prog w' = .ok (.string (cbs (dpS 1 (j + 1)))) w' := fun w' => by rw [← dpS_succ]; exact cat_run _ _ (by rw [cbs_size]; show _ + 1 ≤ _; omega) w'
        have b2 : ∀ w', (Op.stringOp .add (cbs (dpE 1 j)) ⟨#[41]⟩).run Tryd.prog w' = .ok (.string (cbs (dpE 1 (j + 1)))) w' := fun w' => by rw [← dpE_succ]; exact cat_run _ _ (by rw [cbs_size]; show _ + 1 ≤ _; omega) w'
        have hji : (j : Int) < (n : Int) := by omega
        go_wp2_with fail
        refine ⟨⟨j + 1, by omega, by go_num, by trivial, by trivial, by trivial⟩, ?_⟩
        simp [intOf]
        omega
      · obtain rfl : j = n := by omega
        have hji : ¬ (j : Int) < (j : Int) := by omega
        have b3 : ∀ w', (Op.stringOp .add (cbs (dpS 1 j)) (cbs (dpE 1 j))).run Tryd.prog w' = .ok (.string (cbs (dpT 1 j))) w' := fun w' => by rw [show dpT 1 j = dpS 1 j ++ dpE 1 j from rfl, ← cbs_add]; exact cat_run _ _ (by rw [cbs_size, cbs_size]; omega) w'
        have hsz : (cbs (dpT 1 j)).size ≤ maxLen := by
          rw [cbs_size, dpT, List.length_append]
          unfold maxLen
          omega
        have hX := dp_at (w := 1) (by decide) hn
        obtain ⟨m, hm⟩ : ∃ m, m = aW 1 * j + 1 + cW 1 * j := ⟨_, rfl⟩
        have hlen : (dpX 1 j).length = m + 1 := by rw [hm]; exact dp_len 1 j
        have HTK := Lib.hid (fun w1 => tokens_are (cbs (dpT 1 j)) hsz (dpX 1 j) 0 0 (by rw [show (cbs (dpT 1 j)).data.toList = dpT 1 j by simp [cbs]]; exact hX) w1)
        have ha := (aW_le 1).2
        have hb := Nat.mul_le_mul_right j ha
        have hc : cW 1 * j ≤ 1 * j := Nat.mul_le_mul_right _ (by decide)
        have hm2 : m ≤ 200 := by omega
        have HM := Lib.hid hm
        have HLEN := Lib.hid hlen
        rw [hlen] at HTK
        clear hX z1 z2 hsz hlen hm ha hb hc
        go_wp2_with (go_at_call 8; refine (HTK.out _).mono ?_; rintro e w1 ⟨TA, tc, rfl, hl1, hb1⟩; have HB1 := Lib.hid hb1; have HLI := Lib.hid hl1; clear hb1 hl1)
        obtain ⟨wa, hwa⟩ : ∃ wa, wa = w1.alloc (.cells #[.int .i64 0, .int .i64 0] 25) := ⟨_, rfl⟩
        rw [← hwa]
        have hba : Below w1.heap.size w1 wa := by rw [hwa]; exact (Below.refl _ _).alloc (Nat.le_refl _) _
        have hbr := below_seq HB1.out hba HB1.out.size
        have HBR := Lib.hid hbr
        have HT := Lib.hid (((toks_of (c := tc) HLI.out dp_short).below hba).re2)
        rw [HLEN.out] at HT
        have HBR2 : Hid (Below w.heap.size w wa) := below_seq HBZ.out hbr HBZ.out.size
        have HOA : Hid (OpsIn wa) := by obtain ⟨gt, gfr, hg⟩ := HOW.out; exact ⟨gt, gfr, (hbr.block _ (heap_lt' hg)).trans hg⟩
        clear hwa hba hbr HLI HTK HB1 HBZ HOW
        by_cases hle : j = 0 ∨ o + j ≤ 50
        · obtain ⟨pe, hp⟩ := parse_live (dp_nest (w := 1) (n := j)) (by decide) hn (o : Int) (by omega) (by omega)
          rw [← HM.out] at hp
          refine (parse_any wa wa.heap.size _ ((dpX 1 j).map toRT) 0 o HT.out HOA.out 1000 (by decide) _ hp).mono ?_
          rintro e w2 ⟨xk, xn, xs, xo, xd, xp, xl, xc, xa, xb, xr, xe, xf, rfl, -, hb2⟩
          have HB2 : Hid (Below w.heap.size w w2) := below_seq HBR2.out hb2 HBR2.out.size
          have HO2 : Hid (OpsIn w2) := by obtain ⟨gt, gfr, hg⟩ := HOA.out; exact ⟨gt, gfr, (hb2.block _ (heap_lt' hg)).trans hg⟩
          clear hb2 hp
          have ht1 : ((j == 0) || decide ((j : Int) + (o : Int) ≤ 50)) = true := by rcases hle with h | h <;> simp [h] <;> omega
          go_wp2_with fail
          all_goals (refine (known_any _ ((HO2.out.below ((Below.refl _ _).alloc (Nat.le_refl _) _)).below ((Below.refl _ _).alloc (Nat.le_refl _) _))).mono ?_; rintro e w4 ⟨rfl, hb4⟩)
          all_goals (go_wp2_with fail; go_ret; exact ⟨rfl, below_seq ((HB2.out.alloc HB2.out.size _).alloc (by rw [size_alloc]; have := HB2.out.size; omega) _) hb4 (by rw [size_alloc, size_alloc]; have := HB2.out.size; omega)⟩)
        · obtain ⟨pe, hp⟩ := parse_dead (dp_nest (w := 1) (n := j)) (by decide) hn (o : Int) (by omega) (by omega) (by omega)
          have hcl : (50 - clamp (o : Int)).toNat ≤ 50 := by unfold clamp; omega
          have hds := dec_sub o
          obtain ⟨c, hc⟩ : ∃ c, c = (50 - clamp (o : Int)).toNat := ⟨_, rfl⟩
          rw [← hc] at hp hcl hds
          have hx : ((aW 1 * c + (aW 1 - 1) : Nat) : Int) = (c : Int) * 1 + 1 - 1 := by rw [show aW 1 = 1 from rfl]; omega
          rw [hx] at hp
          refine (parse_any wa wa.heap.size _ ((dpX 1 j).map toRT) 0 o HT.out HOA.out 1000 (by decide) _ hp).mono ?_
          rintro e w2 ⟨xk, xn, xs, xo, xd, xp, xl, xc, xa, xb, xr, xe, xf, rfl, -, hb2⟩
          have HB2 : Hid (Below w.heap.size w w2) := below_seq HBR2.out hb2 HBR2.out.size
          have HO2 : Hid (OpsIn w2) := by obtain ⟨gt, gfr, hg⟩ := HOA.out; exact ⟨gt, gfr, (hb2.block _ (heap_lt' hg)).trans hg⟩
          clear hb2 hp hc
          have ht0 : ((j : Int) == 0) = false := by simp; omega
          have ht1 : decide ((j : Int) + (o : Int) ≤ 50) = false := decide_eq_false (by omega)
          have ht2 : ¬ j = 0 := by omega
          have hG := eqGuardFault
          go_wp2_with fail
          refine (known_any _ ((HO2.out.below ((Below.refl _ _).alloc (Nat.le_refl _) _)).below ((Below.refl _ _).alloc (Nat.le_refl _) _))).mono ?_
          rintro e w4 ⟨rfl, hb4⟩
          go_wp2_with fail
          go_ret
          exact ⟨rfl, below_seq ((HB2.out.alloc HB2.out.size _).alloc (by rw [size_alloc]; have := HB2.out.size; omega) _) hb4 (by rw [size_alloc, size_alloc]; have := HB2.out.size; omega)⟩
  · obtain ⟨W0, hW0⟩ : ∃ W0, W0 = ((w.alloc (.cells #[.string ⟨#[]⟩, .string ⟨#[41]⟩, .string ⟨#[41]⟩, .string ⟨#[93]⟩] 9)).alloc (.cells #[.string ⟨#[45]⟩, .string ⟨#[40]⟩, .string ⟨#[102, 40]⟩, .string ⟨#[120, 91]⟩] 9)).drew := ⟨_, rfl⟩
    rw [← hW0]
    have hbz : Below w.heap.size w W0 := by rw [hW0]; exact (((Below.refl _ _).alloc (Nat.le_refl _) _).alloc (by rw [size_alloc]; omega) _).drew
    have HBZ := Lib.hid hbz
    have HOW : Hid (OpsIn W0) := by obtain ⟨gt, gfr, hg⟩ := HOPS.out; exact ⟨gt, gfr, (hbz.block _ (heap_lt' hg)).trans hg⟩
    clear hW0 hbz HOPS
    go_wp2
    go_loopw [9, 10, 11] (fun s t i wr => ∃ j : Nat, j ≤ n ∧ i = .int .i64 j ∧ s = .string (cbs (dpS 1 j)) ∧ t = .string (cbs (dpE 1 j)) ∧ wr = W0) (fun _ _ i _ => n - (intOf i).toNat)
    case atStart => exact ⟨0, Nat.zero_le _, rfl, rfl, rfl, rfl⟩
    case round =>
      obtain ⟨j, hj, rfl, rfl, rfl, rfl⟩ := hrel
      have z1 := dpS_len 1 j
      have z2 := dpE_len 1 j
      by_cases hlt : j < n
      · have b1 : ∀ w', (Op.stringOp .add (cbs (dpS 1 j)) ⟨#[40]⟩).run Tryd.prog w' = .ok (.string (cbs (dpS 1 (j + 1)))) w' := fun w' => by rw [← dpS_succ]; exact cat_run _ _ (by rw [cbs_size]; show _ + 1 ≤ _; omega) w'
        have b2 : ∀ w', (Op.stringOp .add (cbs (dpE 1 j)) ⟨#[41]⟩).run Tryd.prog w' = .ok (.string (cbs (dpE 1 (j + 1)))) w' := fun w' => by rw [← dpE_succ]; exact cat_run _ _ (by rw [cbs_size]; show _ + 1 ≤ _; omega) w'
        have hji : (j : Int) < (n : Int) := by omega
        go_wp2_with fail
        refine ⟨⟨j + 1, by omega, by go_num, by trivial, by trivial, by trivial⟩, ?_⟩
        simp [intOf]
        omega
      · obtain rfl : j = n := by omega
        have hji : ¬ (j : Int) < (j : Int) := by omega
        have b3 : ∀ w', (Op.stringOp .add (cbs (dpS 1 j)) (cbs (dpE 1 j))).run Tryd.prog w' = .ok (.string (cbs (dpT 1 j))) w' := fun w' => by rw [show dpT 1 j = dpS 1 j ++ dpE 1 j from rfl, ← cbs_add]; exact cat_run _ _ (by rw [cbs_size, cbs_size]; omega) w'
        have hsz : (cbs (dpT 1 j)).size ≤ maxLen := by
          rw [cbs_size, dpT, List.length_append]
          unfold maxLen
          omega
        have hX := dp_at (w := 1) (by decide) hn
        obtain ⟨m, hm⟩ : ∃ m, m = aW 1 * j + 1 + cW 1 * j := ⟨_, rfl⟩
        have hlen : (dpX 1 j).length = m + 1 := by rw [hm]; exact dp_len 1 j
        have HTK := Lib.hid (fun w1 => tokens_are (cbs (dpT 1 j)) hsz (dpX 1 j) 0 0 (by rw [show (cbs (dpT 1 j)).data.toList = dpT 1 j by simp [cbs]]; exact hX) w1)
        have ha := (aW_le 1).2
        have hb := Nat.mul_le_mul_right j ha
        have hc : cW 1 * j ≤ 1 * j := Nat.mul_le_mul_right _ (by decide)
        have hm2 : m ≤ 200 := by omega
        have HM := Lib.hid hm
        have HLEN := Lib.hid hlen
        rw [hlen] at HTK
        clear hX z1 z2 hsz hlen hm ha hb hc
        go_wp2_with (go_at_call 8; refine (HTK.out _).mono ?_; rintro e w1 ⟨TA, tc, rfl, hl1, hb1⟩; have HB1 := Lib.hid hb1; have HLI := Lib.hid hl1; clear hb1 hl1)
        obtain ⟨wa, hwa⟩ : ∃ wa, wa = w1.alloc (.cells #[.int .i64 0, .int .i64 0] 25) := ⟨_, rfl⟩
        rw [← hwa]
        have hba : Below w1.heap.size w1 wa := by rw [hwa]; exact (Below.refl _ _).alloc (Nat.le_refl _) _
        have hbr := below_seq HB1.out hba HB1.out.size
        have HBR := Lib.hid hbr
        have HT := Lib.hid (((toks_of (c := tc) HLI.out dp_short).below hba).re2)
        rw [HLEN.out] at HT
        have HBR2 : Hid (Below w.heap.size w wa) := below_seq HBZ.out hbr HBZ.out.size
        have HOA : Hid (OpsIn wa) := by obtain ⟨gt, gfr, hg⟩ := HOW.out; exact ⟨gt, gfr, (hbr.block _ (heap_lt' hg)).trans hg⟩
        clear hwa hba hbr HLI HTK HB1 HBZ HOW
        by_cases hle : j = 0 ∨ o + j ≤ 50
        · obtain ⟨pe, hp⟩ := parse_live (dp_nest (w := 1) (n := j)) (by decide) hn (o : Int) (by omega) (by omega)
          rw [← HM.out] at hp
          refine (parse_any wa wa.heap.size _ ((dpX 1 j).map toRT) 0 o HT.out HOA.out 1000 (by decide) _ hp).mono ?_
          rintro e w2 ⟨xk, xn, xs, xo, xd, xp, xl, xc, xa, xb, xr, xe, xf, rfl, -, hb2⟩
          have HB2 : Hid (Below w.heap.size w w2) := below_seq HBR2.out hb2 HBR2.out.size
          have HO2 : Hid (OpsIn w2) := by obtain ⟨gt, gfr, hg⟩ := HOA.out; exact ⟨gt, gfr, (hb2.block _ (heap_lt' hg)).trans hg⟩
          clear hb2 hp
          have ht1 : ((j == 0) || decide ((j : Int) + (o : Int) ≤ 50)) = true := by rcases hle with h | h <;> simp [h] <;> omega
          go_wp2_with fail
          all_goals (refine (known_any _ ((HO2.out.below ((Below.refl _ _).alloc (Nat.le_refl _) _)).below ((Below.refl _ _).alloc (Nat.le_refl _) _))).mono ?_; rintro e w4 ⟨rfl, hb4⟩)
          all_goals (go_wp2_with fail; go_ret; exact ⟨rfl, below_seq ((HB2.out.alloc HB2.out.size _).alloc (by rw [size_alloc]; have := HB2.out.size; omega) _) hb4 (by rw [size_alloc, size_alloc]; have := HB2.out.size; omega)⟩)
        · obtain ⟨pe, hp⟩ := parse_dead (dp_nest (w := 1) (n := j)) (by decide) hn (o : Int) (by omega) (by omega) (by omega)
          have hcl : (50 - clamp (o : Int)).toNat ≤ 50 := by unfold clamp; omega
          have hds := dec_sub o
          obtain ⟨c, hc⟩ : ∃ c, c = (50 - clamp (o : Int)).toNat := ⟨_, rfl⟩
          rw [← hc] at hp hcl hds
          have hx : ((aW 1 * c + (aW 1 - 1) : Nat) : Int) = (c : Int) * 1 + 1 - 1 := by rw [show aW 1 = 1 from rfl]; omega
          rw [hx] at hp
          refine (parse_any wa wa.heap.size _ ((dpX 1 j).map toRT) 0 o HT.out HOA.out 1000 (by decide) _ hp).mono ?_
          rintro e w2 ⟨xk, xn, xs, xo, xd, xp, xl, xc, xa, xb, xr, xe, xf, rfl, -, hb2⟩
          have HB2 : Hid (Below w.heap.size w w2) := below_seq HBR2.out hb2 HBR2.out.size
          have HO2 : Hid (OpsIn w2) := by obtain ⟨gt, gfr, hg⟩ := HOA.out; exact ⟨gt, gfr, (hb2.block _ (heap_lt' hg)).trans hg⟩
          clear hb2 hp hc
          have ht0 : ((j : Int) == 0) = false := by simp; omega
          have ht1 : decide ((j : Int) + (o : Int) ≤ 50) = false := decide_eq_false (by omega)
          have ht2 : ¬ j = 0 := by omega
          have hG := eqGuardFault
          go_wp2_with fail
          refine (known_any _ ((HO2.out.below ((Below.refl _ _).alloc (Nat.le_refl _) _)).below ((Below.refl _ _).alloc (Nat.le_refl _) _))).mono ?_
          rintro e w4 ⟨rfl, hb4⟩
          go_wp2_with fail
          go_ret
          exact ⟨rfl, below_seq ((HB2.out.alloc HB2.out.size _).alloc (by rw [size_alloc]; have := HB2.out.size; omega) _) hb4 (by rw [size_alloc, size_alloc]; have := HB2.out.size; omega)⟩

set_option maxRecDepth 8000 in
set_option maxHeartbeats 4000000 in
theorem deep_in2 (w : World) (n o : Nat) (hn : n ≤ 60) (ho : o ≤ 60) (hops : OpsIn w) :
    Calls Tryd.prog 6 #[.int .i64 (n : Int), .int .i64 2, .int .i64 (o : Int)] w fun e w' => e = .returned (.bool true) ∧ Below w.heap.size w w' := by
  have hd1 : decide ((n : Int) < 0) = false := decide_eq_false (by omega)
  have hd2 : decide ((60 : Int) < (n : Int)) = false := decide_eq_false (by omega)
  have hd5 : decide ((o : Int) < 0) = false := decide_eq_false (by omega)
  have hd6 : decide ((60 : Int) < (o : Int)) = false := decide_eq_false (by omega)
  have hd2' : decide (60 < n) = false := decide_eq_false (by omega)
  have hd6' : decide (60 < o) = false := decide_eq_false (by omega)
  have HOPS := Lib.hid hops
  clear hops
  go_enter Tryd.func6, Tryd.ntmps6
  go_wp2_with fail
  go_region
  · obtain ⟨W0, hW0⟩ : ∃ W0, W0 = ((w.alloc (.cells #[.string ⟨#[45]⟩, .string ⟨#[40]⟩, .string ⟨#[102, 40]⟩, .string ⟨#[120, 91]⟩] 9)).alloc (.cells #[.string ⟨#[]⟩, .string ⟨#[41]⟩, .string ⟨#[41]⟩, .string ⟨#[93]⟩] 9)).drew := ⟨_, rfl⟩
    rw [← hW0]
    have hbz : Below w.heap.size w W0 := by rw [hW0]; exact (((Below.refl _ _).alloc (Nat.le_refl _) _).alloc (by rw [size_alloc]; omega) _).drew
    have HBZ := Lib.hid hbz
    have HOW : Hid (OpsIn W0) := by obtain ⟨gt, gfr, hg⟩ := HOPS.out; exact ⟨gt, gfr, (hbz.block _ (heap_lt' hg)).trans hg⟩
    clear hW0 hbz HOPS
    go_wp2
    go_loopw [9, 10, 11] (fun s t i wr => ∃ j : Nat, j ≤ n ∧ i = .int .i64 j ∧ s = .string (cbs (dpS 2 j)) ∧ t = .string (cbs (dpE 2 j)) ∧ wr = W0) (fun _ _ i _ => n - (intOf i).toNat)
    case atStart => exact ⟨0, Nat.zero_le _, rfl, rfl, rfl, rfl⟩
    case round =>
      obtain ⟨j, hj, rfl, rfl, rfl, rfl⟩ := hrel
      have z1 := dpS_len 2 j
      have z2 := dpE_len 2 j
      by_cases hlt : j < n
      · have b1 : ∀ w', (Op.stringOp .add (cbs (dpS 2 j)) ⟨#[102, 40]⟩).run Tryd.prog w' = .ok (.string (cbs (dpS 2 (j + 1)))) w' := fun w' => by rw [← dpS_succ]; exact cat_run _ _ (by rw [cbs_size]; show _ + 2 ≤ _; omega) w'
        have b2 : ∀ w', (Op.stringOp .add (cbs (dpE 2 j)) ⟨#[41]⟩).run Tryd.prog w' = .ok (.string (cbs (dpE 2 (j + 1)))) w' := fun w' => by rw [← dpE_succ]; exact cat_run _ _ (by rw [cbs_size]; show _ + 1 ≤ _; omega) w'
        have hji : (j : Int) < (n : Int) := by omega
        go_wp2_with fail
        refine ⟨⟨j + 1, by omega, by go_num, by trivial, by trivial, by trivial⟩, ?_⟩
        simp [intOf]
        omega
      · obtain rfl : j = n := by omega
        have hji : ¬ (j : Int) < (j : Int) := by omega
        have b3 : ∀ w', (Op.stringOp .add (cbs (dpS 2 j)) (cbs (dpE 2 j))).run Tryd.prog w' = .ok (.string (cbs (dpT 2 j))) w' := fun w' => by rw [show dpT 2 j = dpS 2 j ++ dpE 2 j from rfl, ← cbs_add]; exact cat_run _ _ (by rw [cbs_size, cbs_size]; omega) w'
        have hsz : (cbs (dpT 2 j)).size ≤ maxLen := by
          rw [cbs_size, dpT, List.length_append]
          unfold maxLen
          omega
        have hX := dp_at (w := 2) (by decide) hn
        obtain ⟨m, hm⟩ : ∃ m, m = aW 2 * j + 1 + cW 2 * j := ⟨_, rfl⟩
        have hlen : (dpX 2 j).length = m + 1 := by rw [hm]; exact dp_len 2 j
        have HTK := Lib.hid (fun w1 => tokens_are (cbs (dpT 2 j)) hsz (dpX 2 j) 0 0 (by rw [show (cbs (dpT 2 j)).data.toList = dpT 2 j by simp [cbs]]; exact hX) w1)
        have ha := (aW_le 2).2
        have hb := Nat.mul_le_mul_right j ha
        have hc : cW 2 * j ≤ 1 * j := Nat.mul_le_mul_right _ (by decide)
        have hm2 : m ≤ 200 := by omega
        have HM := Lib.hid hm
        have HLEN := Lib.hid hlen
        rw [hlen] at HTK
        clear hX z1 z2 hsz hlen hm ha hb hc
        go_wp2_with (go_at_call 8; refine (HTK.out _).mono ?_; rintro e w1 ⟨TA, tc, rfl, hl1, hb1⟩; have HB1 := Lib.hid hb1; have HLI := Lib.hid hl1; clear hb1 hl1)
        obtain ⟨wa, hwa⟩ : ∃ wa, wa = w1.alloc (.cells #[.int .i64 0, .int .i64 0] 25) := ⟨_, rfl⟩
        rw [← hwa]
        have hba : Below w1.heap.size w1 wa := by rw [hwa]; exact (Below.refl _ _).alloc (Nat.le_refl _) _
        have hbr := below_seq HB1.out hba HB1.out.size
        have HBR := Lib.hid hbr
        have HT := Lib.hid (((toks_of (c := tc) HLI.out dp_short).below hba).re2)
        rw [HLEN.out] at HT
        have HBR2 : Hid (Below w.heap.size w wa) := below_seq HBZ.out hbr HBZ.out.size
        have HOA : Hid (OpsIn wa) := by obtain ⟨gt, gfr, hg⟩ := HOW.out; exact ⟨gt, gfr, (hbr.block _ (heap_lt' hg)).trans hg⟩
        clear hwa hba hbr HLI HTK HB1 HBZ HOW
        by_cases hle : j = 0 ∨ o + j ≤ 50
        · obtain ⟨pe, hp⟩ := parse_live (dp_nest (w := 2) (n := j)) (by decide) hn (o : Int) (by omega) (by omega)
          rw [← HM.out] at hp
          refine (parse_any wa wa.heap.size _ ((dpX 2 j).map toRT) 0 o HT.out HOA.out 1000 (by decide) _ hp).mono ?_
          rintro e w2 ⟨xk, xn, xs, xo, xd, xp, xl, xc, xa, xb, xr, xe, xf, rfl, -, hb2⟩
          have HB2 : Hid (Below w.heap.size w w2) := below_seq HBR2.out hb2 HBR2.out.size
          have HO2 : Hid (OpsIn w2) := by obtain ⟨gt, gfr, hg⟩ := HOA.out; exact ⟨gt, gfr, (hb2.block _ (heap_lt' hg)).trans hg⟩
          clear hb2 hp
          have ht1 : ((j == 0) || decide ((j : Int) + (o : Int) ≤ 50)) = true := by rcases hle with h | h <;> simp [h] <;> omega
          go_wp2_with fail
          all_goals (refine (known_any _ ((HO2.out.below ((Below.refl _ _).alloc (Nat.le_refl _) _)).below ((Below.refl _ _).alloc (Nat.le_refl _) _))).mono ?_; rintro e w4 ⟨rfl, hb4⟩)
          all_goals (go_wp2_with fail; go_ret; exact ⟨rfl, below_seq ((HB2.out.alloc HB2.out.size _).alloc (by rw [size_alloc]; have := HB2.out.size; omega) _) hb4 (by rw [size_alloc, size_alloc]; have := HB2.out.size; omega)⟩)
        · obtain ⟨pe, hp⟩ := parse_dead (dp_nest (w := 2) (n := j)) (by decide) hn (o : Int) (by omega) (by omega) (by omega)
          have hcl : (50 - clamp (o : Int)).toNat ≤ 50 := by unfold clamp; omega
          have hds := dec_sub o
          obtain ⟨c, hc⟩ : ∃ c, c = (50 - clamp (o : Int)).toNat := ⟨_, rfl⟩
          rw [← hc] at hp hcl hds
          have hx : ((aW 2 * c + (aW 2 - 1) : Nat) : Int) = (c : Int) * 2 + 2 - 1 := by rw [show aW 2 = 2 from rfl]; omega
          rw [hx] at hp
          refine (parse_any wa wa.heap.size _ ((dpX 2 j).map toRT) 0 o HT.out HOA.out 1000 (by decide) _ hp).mono ?_
          rintro e w2 ⟨xk, xn, xs, xo, xd, xp, xl, xc, xa, xb, xr, xe, xf, rfl, -, hb2⟩
          have HB2 : Hid (Below w.heap.size w w2) := below_seq HBR2.out hb2 HBR2.out.size
          have HO2 : Hid (OpsIn w2) := by obtain ⟨gt, gfr, hg⟩ := HOA.out; exact ⟨gt, gfr, (hb2.block _ (heap_lt' hg)).trans hg⟩
          clear hb2 hp hc
          have ht0 : ((j : Int) == 0) = false := by simp; omega
          have ht1 : decide ((j : Int) + (o : Int) ≤ 50) = false := decide_eq_false (by omega)
          have ht2 : ¬ j = 0 := by omega
          have hG := eqGuardFault
          go_wp2_with fail
          refine (known_any _ ((HO2.out.below ((Below.refl _ _).alloc (Nat.le_refl _) _)).below ((Below.refl _ _).alloc (Nat.le_refl _) _))).mono ?_
          rintro e w4 ⟨rfl, hb4⟩
          go_wp2_with fail
          go_ret
          exact ⟨rfl, below_seq ((HB2.out.alloc HB2.out.size _).alloc (by rw [size_alloc]; have := HB2.out.size; omega) _) hb4 (by rw [size_alloc, size_alloc]; have := HB2.out.size; omega)⟩
  · obtain ⟨W0, hW0⟩ : ∃ W0, W0 = ((w.alloc (.cells #[.string ⟨#[]⟩, .string ⟨#[41]⟩, .string ⟨#[41]⟩, .string ⟨#[93]⟩] 9)).alloc (.cells #[.string ⟨#[45]⟩, .string ⟨#[40]⟩, .string ⟨#[102, 40]⟩, .string ⟨#[120, 91]⟩] 9)).drew := ⟨_, rfl⟩
    rw [← hW0]
    have hbz : Below w.heap.size w W0 := by rw [hW0]; exact (((Below.refl _ _).alloc (Nat.le_refl _) _).alloc (by rw [size_alloc]; omega) _).drew
    have HBZ := Lib.hid hbz
    have HOW : Hid (OpsIn W0) := by obtain ⟨gt, gfr, hg⟩ := HOPS.out; exact ⟨gt, gfr, (hbz.block _ (heap_lt' hg)).trans hg⟩
    clear hW0 hbz HOPS
    go_wp2
    go_loopw [9, 10, 11] (fun s t i wr => ∃ j : Nat, j ≤ n ∧ i = .int .i64 j ∧ s = .string (cbs (dpS 2 j)) ∧ t = .string (cbs (dpE 2 j)) ∧ wr = W0) (fun _ _ i _ => n - (intOf i).toNat)
    case atStart => exact ⟨0, Nat.zero_le _, rfl, rfl, rfl, rfl⟩
    case round =>
      obtain ⟨j, hj, rfl, rfl, rfl, rfl⟩ := hrel
      have z1 := dpS_len 2 j
      have z2 := dpE_len 2 j
      by_cases hlt : j < n
      · have b1 : ∀ w', (Op.stringOp .add (cbs (dpS 2 j)) ⟨#[102, 40]⟩).run Tryd.prog w' = .ok (.string (cbs (dpS 2 (j + 1)))) w' := fun w' => by rw [← dpS_succ]; exact cat_run _ _ (by rw [cbs_size]; show _ + 2 ≤ _; omega) w'
        have b2 : ∀ w', (Op.stringOp .add (cbs (dpE 2 j)) ⟨#[41]⟩).run Tryd.prog w' = .ok (.string (cbs (dpE 2 (j + 1)))) w' := fun w' => by rw [← dpE_succ]; exact cat_run _ _ (by rw [cbs_size]; show _ + 1 ≤ _; omega) w'
        have hji : (j : Int) < (n : Int) := by omega
        go_wp2_with fail
        refine ⟨⟨j + 1, by omega, by go_num, by trivial, by trivial, by trivial⟩, ?_⟩
        simp [intOf]
        omega
      · obtain rfl : j = n := by omega
        have hji : ¬ (j : Int) < (j : Int) := by omega
        have b3 : ∀ w', (Op.stringOp .add (cbs (dpS 2 j)) (cbs (dpE 2 j))).run Tryd.prog w' = .ok (.string (cbs (dpT 2 j))) w' := fun w' => by rw [show dpT 2 j = dpS 2 j ++ dpE 2 j from rfl, ← cbs_add]; exact cat_run _ _ (by rw [cbs_size, cbs_size]; omega) w'
        have hsz : (cbs (dpT 2 j)).size ≤ maxLen := by
          rw [cbs_size, dpT, List.length_append]
          unfold maxLen
          omega
        have hX := dp_at (w := 2) (by decide) hn
        obtain ⟨m, hm⟩ : ∃ m, m = aW 2 * j + 1 + cW 2 * j := ⟨_, rfl⟩
        have hlen : (dpX 2 j).length = m + 1 := by rw [hm]; exact dp_len 2 j
        have HTK := Lib.hid (fun w1 => tokens_are (cbs (dpT 2 j)) hsz (dpX 2 j) 0 0 (by rw [show (cbs (dpT 2 j)).data.toList = dpT 2 j by simp [cbs]]; exact hX) w1)
        have ha := (aW_le 2).2
        have hb := Nat.mul_le_mul_right j ha
        have hc : cW 2 * j ≤ 1 * j := Nat.mul_le_mul_right _ (by decide)
        have hm2 : m ≤ 200 := by omega
        have HM := Lib.hid hm
        have HLEN := Lib.hid hlen
        rw [hlen] at HTK
        clear hX z1 z2 hsz hlen hm ha hb hc
        go_wp2_with (go_at_call 8; refine (HTK.out _).mono ?_; rintro e w1 ⟨TA, tc, rfl, hl1, hb1⟩; have HB1 := Lib.hid hb1; have HLI := Lib.hid hl1; clear hb1 hl1)
        obtain ⟨wa, hwa⟩ : ∃ wa, wa = w1.alloc (.cells #[.int .i64 0, .int .i64 0] 25) := ⟨_, rfl⟩
        rw [← hwa]
        have hba : Below w1.heap.size w1 wa := by rw [hwa]; exact (Below.refl _ _).alloc (Nat.le_refl _) _
        have hbr := below_seq HB1.out hba HB1.out.size
        have HBR := Lib.hid hbr
        have HT := Lib.hid (((toks_of (c := tc) HLI.out dp_short).below hba).re2)
        rw [HLEN.out] at HT
        have HBR2 : Hid (Below w.heap.size w wa) := below_seq HBZ.out hbr HBZ.out.size
        have HOA : Hid (OpsIn wa) := by obtain ⟨gt, gfr, hg⟩ := HOW.out; exact ⟨gt, gfr, (hbr.block _ (heap_lt' hg)).trans hg⟩
        clear hwa hba hbr HLI HTK HB1 HBZ HOW
        by_cases hle : j = 0 ∨ o + j ≤ 50
        · obtain ⟨pe, hp⟩ := parse_live (dp_nest (w := 2) (n := j)) (by decide) hn (o : Int) (by omega) (by omega)
          rw [← HM.out] at hp
          refine (parse_any wa wa.heap.size _ ((dpX 2 j).map toRT) 0 o HT.out HOA.out 1000 (by decide) _ hp).mono ?_
          rintro e w2 ⟨xk, xn, xs, xo, xd, xp, xl, xc, xa, xb, xr, xe, xf, rfl, -, hb2⟩
          have HB2 : Hid (Below w.heap.size w w2) := below_seq HBR2.out hb2 HBR2.out.size
          have HO2 : Hid (OpsIn w2) := by obtain ⟨gt, gfr, hg⟩ := HOA.out; exact ⟨gt, gfr, (hb2.block _ (heap_lt' hg)).trans hg⟩
          clear hb2 hp
          have ht1 : ((j == 0) || decide ((j : Int) + (o : Int) ≤ 50)) = true := by rcases hle with h | h <;> simp [h] <;> omega
          go_wp2_with fail
          all_goals (refine (known_any _ ((HO2.out.below ((Below.refl _ _).alloc (Nat.le_refl _) _)).below ((Below.refl _ _).alloc (Nat.le_refl _) _))).mono ?_; rintro e w4 ⟨rfl, hb4⟩)
          all_goals (go_wp2_with fail; go_ret; exact ⟨rfl, below_seq ((HB2.out.alloc HB2.out.size _).alloc (by rw [size_alloc]; have := HB2.out.size; omega) _) hb4 (by rw [size_alloc, size_alloc]; have := HB2.out.size; omega)⟩)
        · obtain ⟨pe, hp⟩ := parse_dead (dp_nest (w := 2) (n := j)) (by decide) hn (o : Int) (by omega) (by omega) (by omega)
          have hcl : (50 - clamp (o : Int)).toNat ≤ 50 := by unfold clamp; omega
          have hds := dec_sub o
          obtain ⟨c, hc⟩ : ∃ c, c = (50 - clamp (o : Int)).toNat := ⟨_, rfl⟩
          rw [← hc] at hp hcl hds
          have hx : ((aW 2 * c + (aW 2 - 1) : Nat) : Int) = (c : Int) * 2 + 2 - 1 := by rw [show aW 2 = 2 from rfl]; omega
          rw [hx] at hp
          refine (parse_any wa wa.heap.size _ ((dpX 2 j).map toRT) 0 o HT.out HOA.out 1000 (by decide) _ hp).mono ?_
          rintro e w2 ⟨xk, xn, xs, xo, xd, xp, xl, xc, xa, xb, xr, xe, xf, rfl, -, hb2⟩
          have HB2 : Hid (Below w.heap.size w w2) := below_seq HBR2.out hb2 HBR2.out.size
          have HO2 : Hid (OpsIn w2) := by obtain ⟨gt, gfr, hg⟩ := HOA.out; exact ⟨gt, gfr, (hb2.block _ (heap_lt' hg)).trans hg⟩
          clear hb2 hp hc
          have ht0 : ((j : Int) == 0) = false := by simp; omega
          have ht1 : decide ((j : Int) + (o : Int) ≤ 50) = false := decide_eq_false (by omega)
          have ht2 : ¬ j = 0 := by omega
          have hG := eqGuardFault
          go_wp2_with fail
          refine (known_any _ ((HO2.out.below ((Below.refl _ _).alloc (Nat.le_refl _) _)).below ((Below.refl _ _).alloc (Nat.le_refl _) _))).mono ?_
          rintro e w4 ⟨rfl, hb4⟩
          go_wp2_with fail
          go_ret
          exact ⟨rfl, below_seq ((HB2.out.alloc HB2.out.size _).alloc (by rw [size_alloc]; have := HB2.out.size; omega) _) hb4 (by rw [size_alloc, size_alloc]; have := HB2.out.size; omega)⟩

set_option maxRecDepth 8000 in
set_option maxHeartbeats 4000000 in
theorem deep_in3 (w : World) (n o : Nat) (hn : n ≤ 60) (ho : o ≤ 60) (hops : OpsIn w) :
    Calls Tryd.prog 6 #[.int .i64 (n : Int), .int .i64 3, .int .i64 (o : Int)] w fun e w' => e = .returned (.bool true) ∧ Below w.heap.size w w' := by
  have hd1 : decide ((n : Int) < 0) = false := decide_eq_false (by omega)
  have hd2 : decide ((60 : Int) < (n : Int)) = false := decide_eq_false (by omega)
  have hd5 : decide ((o : Int) < 0) = false := decide_eq_false (by omega)
  have hd6 : decide ((60 : Int) < (o : Int)) = false := decide_eq_false (by omega)
  have hd2' : decide (60 < n) = false := decide_eq_false (by omega)
  have hd6' : decide (60 < o) = false := decide_eq_false (by omega)
  have HOPS := Lib.hid hops
  clear hops
  go_enter Tryd.func6, Tryd.ntmps6
  go_wp2_with fail
  go_region
  · obtain ⟨W0, hW0⟩ : ∃ W0, W0 = ((w.alloc (.cells #[.string ⟨#[45]⟩, .string ⟨#[40]⟩, .string ⟨#[102, 40]⟩, .string ⟨#[120, 91]⟩] 9)).alloc (.cells #[.string ⟨#[]⟩, .string ⟨#[41]⟩, .string ⟨#[41]⟩, .string ⟨#[93]⟩] 9)).drew := ⟨_, rfl⟩
    rw [← hW0]
    have hbz : Below w.heap.size w W0 := by rw [hW0]; exact (((Below.refl _ _).alloc (Nat.le_refl _) _).alloc (by rw [size_alloc]; omega) _).drew
    have HBZ := Lib.hid hbz
    have HOW : Hid (OpsIn W0) := by obtain ⟨gt, gfr, hg⟩ := HOPS.out; exact ⟨gt, gfr, (hbz.block _ (heap_lt' hg)).trans hg⟩
    clear hW0 hbz HOPS
    go_wp2
    go_loopw [9, 10, 11] (fun s t i wr => ∃ j : Nat, j ≤ n ∧ i = .int .i64 j ∧ s = .string (cbs (dpS 3 j)) ∧ t = .string (cbs (dpE 3 j)) ∧ wr = W0) (fun _ _ i _ => n - (intOf i).toNat)
    case atStart => exact ⟨0, Nat.zero_le _, rfl, rfl, rfl, rfl⟩
    case round =>
      obtain ⟨j, hj, rfl, rfl, rfl, rfl⟩ := hrel
      have z1 := dpS_len 3 j
      have z2 := dpE_len 3 j
      by_cases hlt : j < n
      · have b1 : ∀ w', (Op.stringOp .add (cbs (dpS 3 j)) ⟨#[120, 91]⟩).run Tryd.prog w' = .ok (.string (cbs (dpS 3 (j + 1)))) w' := fun w' => by rw [← dpS_succ]; exact cat_run _ _ (by rw [cbs_size]; show _ + 2 ≤ _; omega) w'
        have b2 : ∀ w', (Op.stringOp .add (cbs (dpE 3 j)) ⟨#[93]⟩).run Tryd.prog w' = .ok (.string (cbs (dpE 3 (j + 1)))) w' := fun w' => by rw [← dpE_succ]; exact cat_run _ _ (by rw [cbs_size]; show _ + 1 ≤ _; omega) w'
        have hji : (j : Int) < (n : Int) := by omega
        go_wp2_with fail
        refine ⟨⟨j + 1, by omega, by go_num, by trivial, by trivial, by trivial⟩, ?_⟩
        simp [intOf]
        omega
      · obtain rfl : j = n := by omega
        have hji : ¬ (j : Int) < (j : Int) := by omega
        have b3 : ∀ w', (Op.stringOp .add (cbs (dpS 3 j)) (cbs (dpE 3 j))).run Tryd.prog w' = .ok (.string (cbs (dpT 3 j))) w' := fun w' => by rw [show dpT 3 j = dpS 3 j ++ dpE 3 j from rfl, ← cbs_add]; exact cat_run _ _ (by rw [cbs_size, cbs_size]; omega) w'
        have hsz : (cbs (dpT 3 j)).size ≤ maxLen := by
          rw [cbs_size, dpT, List.length_append]
          unfold maxLen
          omega
        have hX := dp_at (w := 3) (by decide) hn
        obtain ⟨m, hm⟩ : ∃ m, m = aW 3 * j + 1 + cW 3 * j := ⟨_, rfl⟩
        have hlen : (dpX 3 j).length = m + 1 := by rw [hm]; exact dp_len 3 j
        have HTK := Lib.hid (fun w1 => tokens_are (cbs (dpT 3 j)) hsz (dpX 3 j) 0 0 (by rw [show (cbs (dpT 3 j)).data.toList = dpT 3 j by simp [cbs]]; exact hX) w1)
        have ha := (aW_le 3).2
        have hb := Nat.mul_le_mul_right j ha
        have hc : cW 3 * j ≤ 1 * j := Nat.mul_le_mul_right _ (by decide)
        have hm2 : m ≤ 200 := by omega
        have HM := Lib.hid hm
        have HLEN := Lib.hid hlen
        rw [hlen] at HTK
        clear hX z1 z2 hsz hlen hm ha hb hc
        go_wp2_with (go_at_call 8; refine (HTK.out _).mono ?_; rintro e w1 ⟨TA, tc, rfl, hl1, hb1⟩; have HB1 := Lib.hid hb1; have HLI := Lib.hid hl1; clear hb1 hl1)
        obtain ⟨wa, hwa⟩ : ∃ wa, wa = w1.alloc (.cells #[.int .i64 0, .int .i64 0] 25) := ⟨_, rfl⟩
        rw [← hwa]
        have hba : Below w1.heap.size w1 wa := by rw [hwa]; exact (Below.refl _ _).alloc (Nat.le_refl _) _
        have hbr := below_seq HB1.out hba HB1.out.size
        have HBR := Lib.hid hbr
        have HT := Lib.hid (((toks_of (c := tc) HLI.out dp_short).below hba).re2)
        rw [HLEN.out] at HT
        have HBR2 : Hid (Below w.heap.size w wa) := below_seq HBZ.out hbr HBZ.out.size
        have HOA : Hid (OpsIn wa) := by obtain ⟨gt, gfr, hg⟩ := HOW.out; exact ⟨gt, gfr, (hbr.block _ (heap_lt' hg)).trans hg⟩
        clear hwa hba hbr HLI HTK HB1 HBZ HOW
        by_cases hle : j = 0 ∨ o + j ≤ 50
        · obtain ⟨pe, hp⟩ := parse_live (dp_nest (w := 3) (n := j)) (by decide) hn (o : Int) (by omega) (by omega)
          rw [← HM.out] at hp
          refine (parse_any wa wa.heap.size _ ((dpX 3 j).map toRT) 0 o HT.out HOA.out 1000 (by decide) _ hp).mono ?_
          rintro e w2 ⟨xk, xn, xs, xo, xd, xp, xl, xc, xa, xb, xr, xe, xf, rfl, -, hb2⟩
          have HB2 : Hid (Below w.heap.size w w2) := below_seq HBR2.out hb2 HBR2.out.size
          have HO2 : Hid (OpsIn w2) := by obtain ⟨gt, gfr, hg⟩ := HOA.out; exact ⟨gt, gfr, (hb2.block _ (heap_lt' hg)).trans hg⟩
          clear hb2 hp
          have ht1 : ((j == 0) || decide ((j : Int) + (o : Int) ≤ 50)) = true := by rcases hle with h | h <;> simp [h] <;> omega
          go_wp2_with fail
          all_goals (refine (known_any _ ((HO2.out.below ((Below.refl _ _).alloc (Nat.le_refl _) _)).below ((Below.refl _ _).alloc (Nat.le_refl _) _))).mono ?_; rintro e w4 ⟨rfl, hb4⟩)
          all_goals (go_wp2_with fail; go_ret; exact ⟨rfl, below_seq ((HB2.out.alloc HB2.out.size _).alloc (by rw [size_alloc]; have := HB2.out.size; omega) _) hb4 (by rw [size_alloc, size_alloc]; have := HB2.out.size; omega)⟩)
        · obtain ⟨pe, hp⟩ := parse_dead (dp_nest (w := 3) (n := j)) (by decide) hn (o : Int) (by omega) (by omega) (by omega)
          have hcl : (50 - clamp (o : Int)).toNat ≤ 50 := by unfold clamp; omega
          have hds := dec_sub o
          obtain ⟨c, hc⟩ : ∃ c, c = (50 - clamp (o : Int)).toNat := ⟨_, rfl⟩
          rw [← hc] at hp hcl hds
          have hx : ((aW 3 * c + (aW 3 - 1) : Nat) : Int) = (c : Int) * 2 + 2 - 1 := by rw [show aW 3 = 2 from rfl]; omega
          rw [hx] at hp
          refine (parse_any wa wa.heap.size _ ((dpX 3 j).map toRT) 0 o HT.out HOA.out 1000 (by decide) _ hp).mono ?_
          rintro e w2 ⟨xk, xn, xs, xo, xd, xp, xl, xc, xa, xb, xr, xe, xf, rfl, -, hb2⟩
          have HB2 : Hid (Below w.heap.size w w2) := below_seq HBR2.out hb2 HBR2.out.size
          have HO2 : Hid (OpsIn w2) := by obtain ⟨gt, gfr, hg⟩ := HOA.out; exact ⟨gt, gfr, (hb2.block _ (heap_lt' hg)).trans hg⟩
          clear hb2 hp hc
          have ht0 : ((j : Int) == 0) = false := by simp; omega
          have ht1 : decide ((j : Int) + (o : Int) ≤ 50) = false := decide_eq_false (by omega)
          have ht2 : ¬ j = 0 := by omega
          have hG := eqGuardFault
          go_wp2_with fail
          refine (known_any _ ((HO2.out.below ((Below.refl _ _).alloc (Nat.le_refl _) _)).below ((Below.refl _ _).alloc (Nat.le_refl _) _))).mono ?_
          rintro e w4 ⟨rfl, hb4⟩
          go_wp2_with fail
          go_ret
          exact ⟨rfl, below_seq ((HB2.out.alloc HB2.out.size _).alloc (by rw [size_alloc]; have := HB2.out.size; omega) _) hb4 (by rw [size_alloc, size_alloc]; have := HB2.out.size; omega)⟩
  · obtain ⟨W0, hW0⟩ : ∃ W0, W0 = ((w.alloc (.cells #[.string ⟨#[]⟩, .string ⟨#[41]⟩, .string ⟨#[41]⟩, .string ⟨#[93]⟩] 9)).alloc (.cells #[.string ⟨#[45]⟩, .string ⟨#[40]⟩, .string ⟨#[102, 40]⟩, .string ⟨#[120, 91]⟩] 9)).drew := ⟨_, rfl⟩
    rw [← hW0]
    have hbz : Below w.heap.size w W0 := by rw [hW0]; exact (((Below.refl _ _).alloc (Nat.le_refl _) _).alloc (by rw [size_alloc]; omega) _).drew
    have HBZ := Lib.hid hbz
    have HOW : Hid (OpsIn W0) := by obtain ⟨gt, gfr, hg⟩ := HOPS.out; exact ⟨gt, gfr, (hbz.block _ (heap_lt' hg)).trans hg⟩
    clear hW0 hbz HOPS
    go_wp2
    go_loopw [9, 10, 11] (fun s t i wr => ∃ j : Nat, j ≤ n ∧ i = .int .i64 j ∧ s = .string (cbs (dpS 3 j)) ∧ t = .string (cbs (dpE 3 j)) ∧ wr = W0) (fun _ _ i _ => n - (intOf i).toNat)
    case atStart => exact ⟨0, Nat.zero_le _, rfl, rfl, rfl, rfl⟩
    case round =>
      obtain ⟨j, hj, rfl, rfl, rfl, rfl⟩ := hrel
      have z1 := dpS_len 3 j
      have z2 := dpE_len 3 j
      by_cases hlt : j < n
      · have b1 : ∀ w', (Op.stringOp .add (cbs (dpS 3 j)) ⟨#[120, 91]⟩).run Tryd.prog w' = .ok (.string (cbs (dpS 3 (j + 1)))) w' := fun w' => by rw [← dpS_succ]; exact cat_run _ _ (by rw [cbs_size]; show _ + 2 ≤ _; omega) w'
        have b2 : ∀ w', (Op.stringOp .add (cbs (dpE 3 j)) ⟨#[93]⟩).run Tryd.prog w' = .ok (.string (cbs (dpE 3 (j + 1)))) w' := fun w' => by rw [← dpE_succ]; exact cat_run _ _ (by rw [cbs_size]; show _ + 1 ≤ _; omega) w'
        have hji : (j : Int) < (n : Int) := by omega
        go_wp2_with fail
        refine ⟨⟨j + 1, by omega, by go_num, by trivial, by trivial, by trivial⟩, ?_⟩
        simp [intOf]
        omega
      · obtain rfl : j = n := by omega
        have hji : ¬ (j : Int) < (j : Int) := by omega
        have b3 : ∀ w', (Op.stringOp .add (cbs (dpS 3 j)) (cbs (dpE 3 j))).run Tryd.prog w' = .ok (.string (cbs (dpT 3 j))) w' := fun w' => by rw [show dpT 3 j = dpS 3 j ++ dpE 3 j from rfl, ← cbs_add]; exact cat_run _ _ (by rw [cbs_size, cbs_size]; omega) w'
        have hsz : (cbs (dpT 3 j)).size ≤ maxLen := by
          rw [cbs_size, dpT, List.length_append]
          unfold maxLen
          omega
        have hX := dp_at (w := 3) (by decide) hn
        obtain ⟨m, hm⟩ : ∃ m, m = aW 3 * j + 1 + cW 3 * j := ⟨_, rfl⟩
        have hlen : (dpX 3 j).length = m + 1 := by rw [hm]; exact dp_len 3 j
        have HTK := Lib.hid (fun w1 => tokens_are (cbs (dpT 3 j)) hsz (dpX 3 j) 0 0 (by rw [show (cbs (dpT 3 j)).data.toList = dpT 3 j by simp [cbs]]; exact hX) w1)
        have ha := (aW_le 3).2
        have hb := Nat.mul_le_mul_right j ha
        have hc : cW 3 * j ≤ 1 * j := Nat.mul_le_mul_right _ (by decide)
        have hm2 : m ≤ 200 := by omega
        have HM := Lib.hid hm
        have HLEN := Lib.hid hlen
        rw [hlen] at HTK
        clear hX z1 z2 hsz hlen hm ha hb hc
        go_wp2_with (go_at_call 8; refine (HTK.out _).mono ?_; rintro e w1 ⟨TA, tc, rfl, hl1, hb1⟩; have HB1 := Lib.hid hb1; have HLI := Lib.hid hl1; clear hb1 hl1)
        obtain ⟨wa, hwa⟩ : ∃ wa, wa = w1.alloc (.cells #[.int .i64 0, .int .i64 0] 25) := ⟨_, rfl⟩
        rw [← hwa]
        have hba : Below w1.heap.size w1 wa := by rw [hwa]; exact (Below.refl _ _).alloc (Nat.le_refl _) _
        have hbr := below_seq HB1.out hba HB1.out.size
        have HBR := Lib.hid hbr
        have HT := Lib.hid (((toks_of (c := tc) HLI.out dp_short).below hba).re2)
        rw [HLEN.out] at HT
        have HBR2 : Hid (Below w.heap.size w wa) := below_seq HBZ.out hbr HBZ.out.size
        have HOA : Hid (OpsIn wa) := by obtain ⟨gt, gfr, hg⟩ := HOW.out; exact ⟨gt, gfr, (hbr.block _ (heap_lt' hg)).trans hg⟩
        clear hwa hba hbr HLI HTK HB1 HBZ HOW
        by_cases hle : j = 0 ∨ o + j ≤ 50
        · obtain ⟨pe, hp⟩ := parse_live (dp_nest (w := 3) (n := j)) (by decide) hn (o : Int) (by omega) (by omega)
          rw [← HM.out] at hp
          refine (parse_any wa wa.heap.size _ ((dpX 3 j).map toRT) 0 o HT.out HOA.out 1000 (by decide) _ hp).mono ?_
          rintro e w2 ⟨xk, xn, xs, xo, xd, xp, xl, xc, xa, xb, xr, xe, xf, rfl, -, hb2⟩
          have HB2 : Hid (Below w.heap.size w w2) := below_seq HBR2.out hb2 HBR2.out.size
          have HO2 : Hid (OpsIn w2) := by obtain ⟨gt, gfr, hg⟩ := HOA.out; exact ⟨gt, gfr, (hb2.block _ (heap_lt' hg)).trans hg⟩
          clear hb2 hp
          have ht1 : ((j == 0) || decide ((j : Int) + (o : Int) ≤ 50)) = true := by rcases hle with h | h <;> simp [h] <;> omega
          go_wp2_with fail
          all_goals (refine (known_any _ ((HO2.out.below ((Below.refl _ _).alloc (Nat.le_refl _) _)).below ((Below.refl _ _).alloc (Nat.le_refl _) _))).mono ?_; rintro e w4 ⟨rfl, hb4⟩)
          all_goals (go_wp2_with fail; go_ret; exact ⟨rfl, below_seq ((HB2.out.alloc HB2.out.size _).alloc (by rw [size_alloc]; have := HB2.out.size; omega) _) hb4 (by rw [size_alloc, size_alloc]; have := HB2.out.size; omega)⟩)
        · obtain ⟨pe, hp⟩ := parse_dead (dp_nest (w := 3) (n := j)) (by decide) hn (o : Int) (by omega) (by omega) (by omega)
          have hcl : (50 - clamp (o : Int)).toNat ≤ 50 := by unfold clamp; omega
          have hds := dec_sub o
          obtain ⟨c, hc⟩ : ∃ c, c = (50 - clamp (o : Int)).toNat := ⟨_, rfl⟩
          rw [← hc] at hp hcl hds
          have hx : ((aW 3 * c + (aW 3 - 1) : Nat) : Int) = (c : Int) * 2 + 2 - 1 := by rw [show aW 3 = 2 from rfl]; omega
          rw [hx] at hp
          refine (parse_any wa wa.heap.size _ ((dpX 3 j).map toRT) 0 o HT.out HOA.out 1000 (by decide) _ hp).mono ?_
          rintro e w2 ⟨xk, xn, xs, xo, xd, xp, xl, xc, xa, xb, xr, xe, xf, rfl, -, hb2⟩
          have HB2 : Hid (Below w.heap.size w w2) := below_seq HBR2.out hb2 HBR2.out.size
          have HO2 : Hid (OpsIn w2) := by obtain ⟨gt, gfr, hg⟩ := HOA.out; exact ⟨gt, gfr, (hb2.block _ (heap_lt' hg)).trans hg⟩
          clear hb2 hp hc
          have ht0 : ((j : Int) == 0) = false := by simp; omega
          have ht1 : decide ((j : Int) + (o : Int) ≤ 50) = false := decide_eq_false (by omega)
          have ht2 : ¬ j = 0 := by omega
          have hG := eqGuardFault
          go_wp2_with fail
          refine (known_any _ ((HO2.out.below ((Below.refl _ _).alloc (Nat.le_refl _) _)).below ((Below.refl _ _).alloc (Nat.le_refl _) _))).mono ?_
          rintro e w4 ⟨rfl, hb4⟩
          go_wp2_with fail
          go_ret
          exact ⟨rfl, below_seq ((HB2.out.alloc HB2.out.size _).alloc (by rw [size_alloc]; have := HB2.out.size; omega) _) hb4 (by rw [size_alloc, size_alloc]; have := HB2.out.size; omega)⟩
end Go.Proofs.YtnadaedibicaaaaDoor
