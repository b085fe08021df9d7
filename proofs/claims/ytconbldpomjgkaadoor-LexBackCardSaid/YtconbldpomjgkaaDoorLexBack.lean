/-
  The walk of LexBack.
-/
import Derived.Test.YtconbldpomjgkaaDoorText
import Derived.Deep.QuietTactic
import Derived.BigQuiet
import Derived.IntWalk
namespace Go.Proofs.YtconbldpomjgkaaDoor
open Go.RowKit

theorem and3 (x : Int) : bits .and .i64 x 3 = 0 ∨ bits .and .i64 x 3 = 1 ∨ bits .and .i64 x 3 = 2 ∨ bits .and .i64 x 3 = 3 := by
  have h : bits .and .i64 x 3 = IntKind.i64.wrap ((BitVec.ofInt 64 x &&& BitVec.ofInt 64 3).toNat : Int) := rfl
  have h2 : (BitVec.ofInt 64 x &&& BitVec.ofInt 64 3).toNat ≤ 3 := by
    rw [BitVec.toNat_and]
    exact Nat.and_le_right
  rw [h, IntKind.wrap_i64]
  omega

set_option maxHeartbeats 1000000 in
theorem back_skip (s : ByteArray) (hs : s.size ≤ maxLen) (how : Int) (ts : List Lx.Tk) (E K : Nat) (htk : Lx.toks s.data.toList = (ts, E, K)) (h : 1000 < s.size ∨ E ≠ 0) (w : World) :
    Calls Tryd.prog 5 #[.string s, .int .i64 how] w fun e w' => e = .returned (.bool true) ∧ Below w.heap.size w w' := by
  have hE : ¬ 1000 < s.size → ((E : Int) != 0) = true := fun h2 => by rw [bne_iff_ne]; omega
  have HTK := Lib.hid htk
  clear htk h
  by_cases h1 : 1000 < s.size
  · clear hE
    go_enter Tryd.func5, Tryd.ntmps5
    go_wp2_with fail
    refine (refTokens_at s hs ts E K HTK.out w).mono ?_
    rintro e w1 ⟨A, c, rfl, hl1, hb1⟩
    clear hl1
    go_wp2
    go_ret
    exact ⟨rfl, hb1.alloc hb1.size _⟩
  · have h1' : s.size ≤ 1000 := by omega
    have hE2 := hE h1
    clear hE h1
    go_enter Tryd.func5, Tryd.ntmps5
    go_wp2_with fail
    refine (refTokens_at s hs ts E K HTK.out w).mono ?_
    rintro e w1 ⟨A, c, rfl, hl1, hb1⟩
    clear hl1
    go_wp2
    go_ret
    exact ⟨rfl, hb1.alloc hb1.size _⟩

theorem tokens_back {sep : List UInt8} (hs : Lx.Between sep) (us : List Lx.Tk) (hg : ∀ t ∈ us, Lx.Good t) (hl : (Lx.join sep us).length ≤ 6000) (w : World) (he : Env w) :
    Calls Tryd.prog 9 #[.string (bs (Lx.join sep us))] w fun e w' => ∃ (A : Option Addr) (c : Nat), e = .returned (.tuple #[.slice A (us.length + 1 : Nat) c, .agg #[.int .i64 0, .int .i64 0]]) ∧ Lies w' w'.heap.size A (cellsOf (Lx.place sep 0 us)) ∧ Below w.heap.size w w' := by
  have h := tokens_at (bs (Lx.join sep us)) (by rw [bs_size]; unfold maxLen; omega) (Lx.place sep 0 us) 0 0 (Lx.toks_join hs us hg hl) w he
  rw [Lx.place_len] at h
  exact h
theorem join_all (sep : List UInt8) (us : List Lx.Tk) (j : Nat) (h : us.length ≤ j) : Lx.join sep (us.take j) = Lx.join sep us := by rw [List.take_of_length_le h]
theorem cat3 (a b c : List UInt8) : bs a ++ bs b ++ bs c = bs (a ++ b ++ c) := by
  apply ByteArray.ext
  rw [ByteArray.data_append, ByteArray.data_append]
  simp [bs]

set_option maxRecDepth 100000 in
set_option maxHeartbeats 2000000 in
theorem back_0 (s : ByteArray) (hs : s.size ≤ 1000) (how : Int) (hr : bits .and .i64 how 3 = 0) (us : List Lx.Tk) (z : Nat) (hg : ∀ t ∈ us, Lx.Good t) (hlen : us.length ≤ 6000) (htk : Lx.toks s.data.toList = (us ++ [⟨0, [], 0, z⟩], 0, 0)) (w : World) (he : Env w) :
    Calls Tryd.prog 5 #[.string s, .int .i64 how] w fun e w' => e = .returned (.bool true) ∧ Below w.heap.size w w' := by
  have hs2 := small_max (s := s) (by omega)
  have HE := Lib.hid he
  have HTK := Lib.hid htk
  have HG := Lib.hid hg
  clear htk he hg
  go_enter Tryd.func5, Tryd.ntmps5
  go_wp2_with fail
  refine (refTokens_at s hs2 _ 0 0 HTK.out w).mono ?_
  rintro e w1 ⟨A, c, rfl, hl1, hb1⟩
  have HL1 := Lib.hid hl1
  clear hl1
  go_wp2
  obtain ⟨W0, hW0⟩ : ∃ W0, W0 = (w1.alloc (.cells #[.int .i64 0, .int .i64 0] 25)).alloc (.cells #[.string ⟨#[32]⟩, .string ⟨#[10]⟩, .string ⟨#[9, 13, 32]⟩, .string ⟨#[32, 47, 47, 32, 120, 10]⟩] 9) := ⟨_, rfl⟩
  rw [← hW0]
  have hb0 : Below w1.heap.size w1 W0 := by rw [hW0]; exact ((Below.refl _ _).alloc (Nat.le_refl _) _).alloc (by simp) _
  have hw0 : Below w.heap.size w W0 := below_go hb1 hb0
  obtain ⟨g, rfl, hgl, hc⟩ := (HL1.out.below hb0) (by intro h; have := congrArg List.length h; rw [cellsOf_len, List.length_nil] at this; simp at this)
  have hgW : g < W0.heap.size := by have := hb0.size; omega
  have HC := Lib.hid hc
  clear hW0 hc HL1
  go_loopw [8, 9] (fun u i wr => ∃ j : Nat, j ≤ us.length ∧ i = .int .i64 j ∧ u = .string (bs (Lx.join [32] (us.take j))) ∧ Below W0.heap.size W0 wr) (fun _ i _ => us.length - (intOf i).toNat)
  case atStart => exact ⟨0, Nat.zero_le _, rfl, rfl, Below.refl _ _⟩
  case round =>
    obtain ⟨j, hj, rfl, rfl, hbr⟩ := hrel
    have hJ := Lx.join_len (sep := [32]) (by decide) (us.take j) (fun t ht => txt_len (HG.out t (List.mem_of_mem_take ht)))
    rw [List.length_take] at hJ
    by_cases hlt : j < us.length
    · obtain ⟨t, ht⟩ : ∃ t, us[j]? = some t := ⟨_, List.getElem?_eq_getElem hlt⟩
      have htg := HG.out t (List.mem_of_getElem? ht)
      have htl := txt_len htg
      have hta := text_any t (Lx.good_num htg)
      have ht2 : (us ++ [(⟨0, [], 0, z⟩ : Lx.Tk)])[j]? = some t := by rw [List.getElem?_append_left hlt]; exact ht
      obtain ⟨x0, x1, x2, x3⟩ := tok_at ht2
      have a0 := HC.out _ _ x0
      have a1 := HC.out _ _ x1
      have a2 := HC.out _ _ x2
      have a3 := HC.out _ _ x3
      rw [← hbr.cell (p := ⟨g, _, none⟩) hgW] at a0 a1 a2 a3
      have hji : (j : Int) < (us.length : Int) := by omega
      have hz1 : (bs (Lx.join [32] (us.take j))).size + (bs (Lx.txt t)).size ≤ 9223372036854775807 := by rw [bs_size, bs_size]; omega
      have hz2 : (bs (Lx.join [32] (us.take j))).size + (bs (Lx.txt t)).size + 1 ≤ 9223372036854775807 := by rw [bs_size, bs_size]; omega
      have hz3 : (bs (Lx.join [32] (us.take j)) ++ bs (Lx.txt t)).size + 1 ≤ 9223372036854775807 := by rw [ByteArray.size_append, bs_size, bs_size]; omega
      have HT := Lib.hid hta
      have HTT := Lib.hid ht
      clear hta ht ht2 x0 x1 x2 x3 htg hJ htl
      go_wp2_with (go_at_call 17; refine (HT.out _).mono ?_; rintro e w2 ⟨rfl, hb2⟩)
      refine ⟨⟨j + 1, by omega, by go_num, congrArg Value.string ((cat3 _ _ [32]).trans (by rw [Lx.join_take [32] HTT.out])), hbr.trans (hb2.mono hbr.size)⟩, ?_⟩
      simp [intOf]
      omega
    · obtain rfl : j = us.length := by omega
      rw [join_all [32] us us.length (Nat.le_refl _)]
      have hwr : Below w.heap.size w wr := below_go hw0 hbr
      have hji : ¬ (us.length : Int) < (us.length : Int) := by omega
      by_cases hJ6 : 6000 < (Lx.join [32] us).length
      · have hJ7 : 6000 < (bs (Lx.join [32] us)).size := hJ6
        go_wp2_with (go_at_call 12; refine (known_true _ (HE.out.below hwr)).mono ?_; rintro e w3 ⟨rfl, hb3⟩)
        go_ret
        exact ⟨rfl, below_go hwr hb3⟩
      · have hJ7 : (bs (Lx.join [32] us)).size ≤ 6000 := by rw [bs_size]; omega
        clear hJ hji
        have hend := Lx.place_end [32] us 0
        rw [Nat.zero_add] at hend
        go_wp2_with fail
        refine (tokens_back Lx.between0 us HG.out (by omega) _ (HE.out.below hwr)).mono ?_
        rintro e w2 ⟨B, d, rfl, hl2, hb2⟩
        obtain ⟨gB, rfl, hgB, hcB⟩ := hl2 (by intro h; have := congrArg List.length h; rw [cellsOf_len, List.length_nil, Lx.place_len] at this; omega)
        have m3 : w2.cell? ⟨gB, us.length * 4 + 3, none⟩ = some (.int .i64 (bs (Lx.join [32] us)).size) := hcB _ _ (tok_at hend).2.2.2
        have hui : (0 : Int) ≤ (us.length : Int) := by omega
        have HCB := Lib.hid hcB
        clear hcB hend
        go_wp2
        obtain ⟨W2, hW2⟩ : ∃ W2, W2 = w2.alloc (.cells #[.int .i64 0, .int .i64 0] 25) := ⟨_, rfl⟩
        rw [← hW2]
        have hB2 : Below w2.heap.size w2 W2 := by rw [hW2]; exact (Below.refl _ _).alloc (Nat.le_refl _) _
        have hwW : Below w.heap.size w W2 := below_go (below_go hwr hb2) hB2
        have hlm : Below W0.heap.size W0 W2 := below_go (below_go hbr hb2) hB2
        have HM : Hid (∀ j u, (cellsOf (Lx.place [32] 0 us))[j]? = some u → W2.cell? ⟨gB, j, none⟩ = some u) := fun j u hu => by rw [hB2.cell (p := ⟨gB, j, none⟩) hgB]; exact HCB.out j u hu
        have HL : Hid (∀ j u, (cellsOf (us ++ [(⟨0, [], 0, z⟩ : Lx.Tk)]))[j]? = some u → W2.cell? ⟨g, j, none⟩ = some u) := fun j u hu => by rw [hlm.cell (p := ⟨g, j, none⟩) hgW]; exact HC.out j u hu
        clear hW2 hB2 hlm HCB HC m3 hb2 hbr
        go_loopw [12] (fun i wx => ∃ j : Nat, j ≤ us.length + 1 ∧ i = .int .i64 j ∧ ∃ n, wx = W2.drewN n) (fun i _ => us.length + 1 - (intOf i).toNat)
        case atStart => exact ⟨0, by omega, rfl, 0, rfl⟩
        case round =>
          obtain ⟨j, hj, rfl, n, rfl⟩ := hrel
          by_cases hlt : j < us.length + 1
          · obtain ⟨t, ht⟩ : ∃ t, (us ++ [(⟨0, [], 0, z⟩ : Lx.Tk)])[j]? = some t := ⟨_, List.getElem?_eq_getElem (by simp; omega)⟩
            obtain ⟨p, hp⟩ := Lx.back_same [32] us z j t ht
            obtain ⟨x0, x1, x2, -⟩ := tok_at ht
            obtain ⟨y0, y1, y2, y3⟩ := tok_at hp
            have a0 := HL.out _ _ x0
            have a1 := HL.out _ _ x1
            have a2 := HL.out _ _ x2
            have b0 := HM.out _ _ y0
            have b1 := HM.out _ _ y1
            have b2 := HM.out _ _ y2
            have b3 := HM.out _ _ y3
            have hji : (j : Int) < (us.length : Int) + 1 := by omega
            clear ht x0 x1 x2 y0 y1 y2 y3
            by_cases hj0 : j = 0
            · have hd0 : decide ((0 : Int) < (j : Int)) = false := decide_eq_false (by omega)
              have hd1 : decide (0 < j) = false := decide_eq_false (by omega)
              clear hp b3 hj0
              go_wp2
              go_quiet (fail)
              go_wp2
              refine ⟨⟨j + 1, by omega, by go_num, _, rfl⟩, ?_⟩
              simp [intOf]
              omega
            · obtain ⟨t', ht'⟩ : ∃ t', (Lx.place [32] 0 us)[j - 1]? = some t' := ⟨_, List.getElem?_eq_getElem (by rw [Lx.place_len]; omega)⟩
              have hup := Lx.place_up us 0 (j - 1) t' _ HG.out ht' (by rw [show j - 1 + 1 = j from by omega]; exact hp)
              have hup2 : t'.at_ < p := hup
              have c3 := HM.out _ _ (tok_at ht').2.2.2
              have hd0 : decide ((0 : Int) < (j : Int)) = true := decide_eq_true (by omega)
              have hd1 : decide (0 < j) = true := decide_eq_true (by omega)
              have hle : decide ((p : Int) ≤ (t'.at_ : Int)) = false := decide_eq_false (by omega)
              have hle1 : decide (p ≤ t'.at_) = false := decide_eq_false (by omega)
              have hj1 : (0 : Int) ≤ (j : Int) - 1 := by omega
              have hj2 : (1 : Int) ≤ (j : Int) := by omega
              have hj3 : (j : Int) - 1 < (us.length : Int) + 1 := by omega
              have n1 : ((j : Int) - 1).toNat = j - 1 := by omega
              have w3 : IntKind.i64.wrap ((j : Int) - 1) = (j : Int) - 1 := IntWalk.i64_in _ (by omega)
              clear hp ht' hup hup2
              go_wp2
              go_quiet (fail)
              clear n1 w3 hd0 hle hd1 hle1
              go_wp2
              refine ⟨⟨j + 1, by omega, by go_num, _, rfl⟩, ?_⟩
              simp [intOf]
              omega
          · have hji : (us.length : Int) + 1 ≤ (j : Int) := by omega
            go_wp2_with (go_at_call 12; refine (known_true _ (HE.out.below (below_drawn hwW n))).mono ?_; rintro e w3 ⟨rfl, hb3⟩)
            go_ret
            exact ⟨rfl, below_go (below_drawn hwW n) hb3⟩

set_option maxRecDepth 100000 in
set_option maxHeartbeats 2000000 in
theorem back_1 (s : ByteArray) (hs : s.size ≤ 1000) (how : Int) (hr : bits .and .i64 how 3 = 1) (us : List Lx.Tk) (z : Nat) (hg : ∀ t ∈ us, Lx.Good t) (hlen : us.length ≤ 6000) (htk : Lx.toks s.data.toList = (us ++ [⟨0, [], 0, z⟩], 0, 0)) (w : World) (he : Env w) :
    Calls Tryd.prog 5 #[.string s, .int .i64 how] w fun e w' => e = .returned (.bool true) ∧ Below w.heap.size w w' := by
  have hs2 := small_max (s := s) (by omega)
  have HE := Lib.hid he
  have HTK := Lib.hid htk
  have HG := Lib.hid hg
  clear htk he hg
  go_enter Tryd.func5, Tryd.ntmps5
  go_wp2_with fail
  refine (refTokens_at s hs2 _ 0 0 HTK.out w).mono ?_
  rintro e w1 ⟨A, c, rfl, hl1, hb1⟩
  have HL1 := Lib.hid hl1
  clear hl1
  go_wp2
  obtain ⟨W0, hW0⟩ : ∃ W0, W0 = (w1.alloc (.cells #[.int .i64 0, .int .i64 0] 25)).alloc (.cells #[.string ⟨#[32]⟩, .string ⟨#[10]⟩, .string ⟨#[9, 13, 32]⟩, .string ⟨#[32, 47, 47, 32, 120, 10]⟩] 9) := ⟨_, rfl⟩
  rw [← hW0]
  have hb0 : Below w1.heap.size w1 W0 := by rw [hW0]; exact ((Below.refl _ _).alloc (Nat.le_refl _) _).alloc (by simp) _
  have hw0 : Below w.heap.size w W0 := below_go hb1 hb0
  obtain ⟨g, rfl, hgl, hc⟩ := (HL1.out.below hb0) (by intro h; have := congrArg List.length h; rw [cellsOf_len, List.length_nil] at this; simp at this)
  have hgW : g < W0.heap.size := by have := hb0.size; omega
  have HC := Lib.hid hc
  clear hW0 hc HL1
  go_loopw [8, 9] (fun u i wr => ∃ j : Nat, j ≤ us.length ∧ i = .int .i64 j ∧ u = .string (bs (Lx.join [10] (us.take j))) ∧ Below W0.heap.size W0 wr) (fun _ i _ => us.length - (intOf i).toNat)
  case atStart => exact ⟨0, Nat.zero_le _, rfl, rfl, Below.refl _ _⟩
  case round =>
    obtain ⟨j, hj, rfl, rfl, hbr⟩ := hrel
    have hJ := Lx.join_len (sep := [10]) (by decide) (us.take j) (fun t ht => txt_len (HG.out t (List.mem_of_mem_take ht)))
    rw [List.length_take] at hJ
    by_cases hlt : j < us.length
    · obtain ⟨t, ht⟩ : ∃ t, us[j]? = some t := ⟨_, List.getElem?_eq_getElem hlt⟩
      have htg := HG.out t (List.mem_of_getElem? ht)
      have htl := txt_len htg
      have hta := text_any t (Lx.good_num htg)
      have ht2 : (us ++ [(⟨0, [], 0, z⟩ : Lx.Tk)])[j]? = some t := by rw [List.getElem?_append_left hlt]; exact ht
      obtain ⟨x0, x1, x2, x3⟩ := tok_at ht2
      have a0 := HC.out _ _ x0
      have a1 := HC.out _ _ x1
      have a2 := HC.out _ _ x2
      have a3 := HC.out _ _ x3
      rw [← hbr.cell (p := ⟨g, _, none⟩) hgW] at a0 a1 a2 a3
      have hji : (j : Int) < (us.length : Int) := by omega
      have hz1 : (bs (Lx.join [10] (us.take j))).size + (bs (Lx.txt t)).size ≤ 9223372036854775807 := by rw [bs_size, bs_size]; omega
      have hz2 : (bs (Lx.join [10] (us.take j))).size + (bs (Lx.txt t)).size + 1 ≤ 9223372036854775807 := by rw [bs_size, bs_size]; omega
      have hz3 : (bs (Lx.join [10] (us.take j)) ++ bs (Lx.txt t)).size + 1 ≤ 9223372036854775807 := by rw [ByteArray.size_append, bs_size, bs_size]; omega
      have HT := Lib.hid hta
      have HTT := Lib.hid ht
      clear hta ht ht2 x0 x1 x2 x3 htg hJ htl
      go_wp2_with (go_at_call 17; refine (HT.out _).mono ?_; rintro e w2 ⟨rfl, hb2⟩)
      refine ⟨⟨j + 1, by omega, by go_num, congrArg Value.string ((cat3 _ _ [10]).trans (by rw [Lx.join_take [10] HTT.out])), hbr.trans (hb2.mono hbr.size)⟩, ?_⟩
      simp [intOf]
      omega
    · obtain rfl : j = us.length := by omega
      rw [join_all [10] us us.length (Nat.le_refl _)]
      have hwr : Below w.heap.size w wr := below_go hw0 hbr
      have hji : ¬ (us.length : Int) < (us.length : Int) := by omega
      by_cases hJ6 : 6000 < (Lx.join [10] us).length
      · have hJ7 : 6000 < (bs (Lx.join [10] us)).size := hJ6
        go_wp2_with (go_at_call 12; refine (known_true _ (HE.out.below hwr)).mono ?_; rintro e w3 ⟨rfl, hb3⟩)
        go_ret
        exact ⟨rfl, below_go hwr hb3⟩
      · have hJ7 : (bs (Lx.join [10] us)).size ≤ 6000 := by rw [bs_size]; omega
        clear hJ hji
        have hend := Lx.place_end [10] us 0
        rw [Nat.zero_add] at hend
        go_wp2_with fail
        refine (tokens_back Lx.between1 us HG.out (by omega) _ (HE.out.below hwr)).mono ?_
        rintro e w2 ⟨B, d, rfl, hl2, hb2⟩
        obtain ⟨gB, rfl, hgB, hcB⟩ := hl2 (by intro h; have := congrArg List.length h; rw [cellsOf_len, List.length_nil, Lx.place_len] at this; omega)
        have m3 : w2.cell? ⟨gB, us.length * 4 + 3, none⟩ = some (.int .i64 (bs (Lx.join [10] us)).size) := hcB _ _ (tok_at hend).2.2.2
        have hui : (0 : Int) ≤ (us.length : Int) := by omega
        have HCB := Lib.hid hcB
        clear hcB hend
        go_wp2
        obtain ⟨W2, hW2⟩ : ∃ W2, W2 = w2.alloc (.cells #[.int .i64 0, .int .i64 0] 25) := ⟨_, rfl⟩
        rw [← hW2]
        have hB2 : Below w2.heap.size w2 W2 := by rw [hW2]; exact (Below.refl _ _).alloc (Nat.le_refl _) _
        have hwW : Below w.heap.size w W2 := below_go (below_go hwr hb2) hB2
        have hlm : Below W0.heap.size W0 W2 := below_go (below_go hbr hb2) hB2
        have HM : Hid (∀ j u, (cellsOf (Lx.place [10] 0 us))[j]? = some u → W2.cell? ⟨gB, j, none⟩ = some u) := fun j u hu => by rw [hB2.cell (p := ⟨gB, j, none⟩) hgB]; exact HCB.out j u hu
        have HL : Hid (∀ j u, (cellsOf (us ++ [(⟨0, [], 0, z⟩ : Lx.Tk)]))[j]? = some u → W2.cell? ⟨g, j, none⟩ = some u) := fun j u hu => by rw [hlm.cell (p := ⟨g, j, none⟩) hgW]; exact HC.out j u hu
        clear hW2 hB2 hlm HCB HC m3 hb2 hbr
        go_loopw [12] (fun i wx => ∃ j : Nat, j ≤ us.length + 1 ∧ i = .int .i64 j ∧ ∃ n, wx = W2.drewN n) (fun i _ => us.length + 1 - (intOf i).toNat)
        case atStart => exact ⟨0, by omega, rfl, 0, rfl⟩
        case round =>
          obtain ⟨j, hj, rfl, n, rfl⟩ := hrel
          by_cases hlt : j < us.length + 1
          · obtain ⟨t, ht⟩ : ∃ t, (us ++ [(⟨0, [], 0, z⟩ : Lx.Tk)])[j]? = some t := ⟨_, List.getElem?_eq_getElem (by simp; omega)⟩
            obtain ⟨p, hp⟩ := Lx.back_same [10] us z j t ht
            obtain ⟨x0, x1, x2, -⟩ := tok_at ht
            obtain ⟨y0, y1, y2, y3⟩ := tok_at hp
            have a0 := HL.out _ _ x0
            have a1 := HL.out _ _ x1
            have a2 := HL.out _ _ x2
            have b0 := HM.out _ _ y0
            have b1 := HM.out _ _ y1
            have b2 := HM.out _ _ y2
            have b3 := HM.out _ _ y3
            have hji : (j : Int) < (us.length : Int) + 1 := by omega
            clear ht x0 x1 x2 y0 y1 y2 y3
            by_cases hj0 : j = 0
            · have hd0 : decide ((0 : Int) < (j : Int)) = false := decide_eq_false (by omega)
              have hd1 : decide (0 < j) = false := decide_eq_false (by omega)
              clear hp b3 hj0
              go_wp2
              go_quiet (fail)
              go_wp2
              refine ⟨⟨j + 1, by omega, by go_num, _, rfl⟩, ?_⟩
              simp [intOf]
              omega
            · obtain ⟨t', ht'⟩ : ∃ t', (Lx.place [10] 0 us)[j - 1]? = some t' := ⟨_, List.getElem?_eq_getElem (by rw [Lx.place_len]; omega)⟩
              have hup := Lx.place_up us 0 (j - 1) t' _ HG.out ht' (by rw [show j - 1 + 1 = j from by omega]; exact hp)
              have hup2 : t'.at_ < p := hup
              have c3 := HM.out _ _ (tok_at ht').2.2.2
              have hd0 : decide ((0 : Int) < (j : Int)) = true := decide_eq_true (by omega)
              have hd1 : decide (0 < j) = true := decide_eq_true (by omega)
              have hle : decide ((p : Int) ≤ (t'.at_ : Int)) = false := decide_eq_false (by omega)
              have hle1 : decide (p ≤ t'.at_) = false := decide_eq_false (by omega)
              have hj1 : (0 : Int) ≤ (j : Int) - 1 := by omega
              have hj2 : (1 : Int) ≤ (j : Int) := by omega
              have hj3 : (j : Int) - 1 < (us.length : Int) + 1 := by omega
              have n1 : ((j : Int) - 1).toNat = j - 1 := by omega
              have w3 : IntKind.i64.wrap ((j : Int) - 1) = (j : Int) - 1 := IntWalk.i64_in _ (by omega)
              clear hp ht' hup hup2
              go_wp2
              go_quiet (fail)
              clear n1 w3 hd0 hle hd1 hle1
              go_wp2
              refine ⟨⟨j + 1, by omega, by go_num, _, rfl⟩, ?_⟩
              simp [intOf]
              omega
          · have hji : (us.length : Int) + 1 ≤ (j : Int) := by omega
            go_wp2_with (go_at_call 12; refine (known_true _ (HE.out.below (below_drawn hwW n))).mono ?_; rintro e w3 ⟨rfl, hb3⟩)
            go_ret
            exact ⟨rfl, below_go (below_drawn hwW n) hb3⟩

set_option maxRecDepth 100000 in
set_option maxHeartbeats 2000000 in
theorem back_2 (s : ByteArray) (hs : s.size ≤ 1000) (how : Int) (hr : bits .and .i64 how 3 = 2) (us : List Lx.Tk) (z : Nat) (hg : ∀ t ∈ us, Lx.Good t) (hlen : us.length ≤ 6000) (htk : Lx.toks s.data.toList = (us ++ [⟨0, [], 0, z⟩], 0, 0)) (w : World) (he : Env w) :
    Calls Tryd.prog 5 #[.string s, .int .i64 how] w fun e w' => e = .returned (.bool true) ∧ Below w.heap.size w w' := by
  have hs2 := small_max (s := s) (by omega)
  have HE := Lib.hid he
  have HTK := Lib.hid htk
  have HG := Lib.hid hg
  clear htk he hg
  go_enter Tryd.func5, Tryd.ntmps5
  go_wp2_with fail
  refine (refTokens_at s hs2 _ 0 0 HTK.out w).mono ?_
  rintro e w1 ⟨A, c, rfl, hl1, hb1⟩
  have HL1 := Lib.hid hl1
  clear hl1
  go_wp2
  obtain ⟨W0, hW0⟩ : ∃ W0, W0 = (w1.alloc (.cells #[.int .i64 0, .int .i64 0] 25)).alloc (.cells #[.string ⟨#[32]⟩, .string ⟨#[10]⟩, .string ⟨#[9, 13, 32]⟩, .string ⟨#[32, 47, 47, 32, 120, 10]⟩] 9) := ⟨_, rfl⟩
  rw [← hW0]
  have hb0 : Below w1.heap.size w1 W0 := by rw [hW0]; exact ((Below.refl _ _).alloc (Nat.le_refl _) _).alloc (by simp) _
  have hw0 : Below w.heap.size w W0 := below_go hb1 hb0
  obtain ⟨g, rfl, hgl, hc⟩ := (HL1.out.below hb0) (by intro h; have := congrArg List.length h; rw [cellsOf_len, List.length_nil] at this; simp at this)
  have hgW : g < W0.heap.size := by have := hb0.size; omega
  have HC := Lib.hid hc
  clear hW0 hc HL1
  go_loopw [8, 9] (fun u i wr => ∃ j : Nat, j ≤ us.length ∧ i = .int .i64 j ∧ u = .string (bs (Lx.join [9, 13, 32] (us.take j))) ∧ Below W0.heap.size W0 wr) (fun _ i _ => us.length - (intOf i).toNat)
  case atStart => exact ⟨0, Nat.zero_le _, rfl, rfl, Below.refl _ _⟩
  case round =>
    obtain ⟨j, hj, rfl, rfl, hbr⟩ := hrel
    have hJ := Lx.join_len (sep := [9, 13, 32]) (by decide) (us.take j) (fun t ht => txt_len (HG.out t (List.mem_of_mem_take ht)))
    rw [List.length_take] at hJ
    by_cases hlt : j < us.length
    · obtain ⟨t, ht⟩ : ∃ t, us[j]? = some t := ⟨_, List.getElem?_eq_getElem hlt⟩
      have htg := HG.out t (List.mem_of_getElem? ht)
      have htl := txt_len htg
      have hta := text_any t (Lx.good_num htg)
      have ht2 : (us ++ [(⟨0, [], 0, z⟩ : Lx.Tk)])[j]? = some t := by rw [List.getElem?_append_left hlt]; exact ht
      obtain ⟨x0, x1, x2, x3⟩ := tok_at ht2
      have a0 := HC.out _ _ x0
      have a1 := HC.out _ _ x1
      have a2 := HC.out _ _ x2
      have a3 := HC.out _ _ x3
      rw [← hbr.cell (p := ⟨g, _, none⟩) hgW] at a0 a1 a2 a3
      have hji : (j : Int) < (us.length : Int) := by omega
      have hz1 : (bs (Lx.join [9, 13, 32] (us.take j))).size + (bs (Lx.txt t)).size ≤ 9223372036854775807 := by rw [bs_size, bs_size]; omega
      have hz2 : (bs (Lx.join [9, 13, 32] (us.take j))).size + (bs (Lx.txt t)).size + 3 ≤ 9223372036854775807 := by rw [bs_size, bs_size]; omega
      have hz3 : (bs (Lx.join [9, 13, 32] (us.take j)) ++ bs (Lx.txt t)).size + 3 ≤ 9223372036854775807 := by rw [ByteArray.size_append, bs_size, bs_size]; omega
      have HT := Lib.hid hta
      have HTT := Lib.hid ht
      clear hta ht ht2 x0 x1 x2 x3 htg hJ htl
      go_wp2_with (go_at_call 17; refine (HT.out _).mono ?_; rintro e w2 ⟨rfl, hb2⟩)
      refine ⟨⟨j + 1, by omega, by go_num, congrArg Value.string ((cat3 _ _ [9, 13, 32]).trans (by rw [Lx.join_take [9, 13, 32] HTT.out])), hbr.trans (hb2.mono hbr.size)⟩, ?_⟩
      simp [intOf]
      omega
    · obtain rfl : j = us.length := by omega
      rw [join_all [9, 13, 32] us us.length (Nat.le_refl _)]
      have hwr : Below w.heap.size w wr := below_go hw0 hbr
      have hji : ¬ (us.length : Int) < (us.length : Int) := by omega
      by_cases hJ6 : 6000 < (Lx.join [9, 13, 32] us).length
      · have hJ7 : 6000 < (bs (Lx.join [9, 13, 32] us)).size := hJ6
        go_wp2_with (go_at_call 12; refine (known_true _ (HE.out.below hwr)).mono ?_; rintro e w3 ⟨rfl, hb3⟩)
        go_ret
        exact ⟨rfl, below_go hwr hb3⟩
      · have hJ7 : (bs (Lx.join [9, 13, 32] us)).size ≤ 6000 := by rw [bs_size]; omega
        clear hJ hji
        have hend := Lx.place_end [9, 13, 32] us 0
        rw [Nat.zero_add] at hend
        go_wp2_with fail
        refine (tokens_back Lx.between2 us HG.out (by omega) _ (HE.out.below hwr)).mono ?_
        rintro e w2 ⟨B, d, rfl, hl2, hb2⟩
        obtain ⟨gB, rfl, hgB, hcB⟩ := hl2 (by intro h; have := congrArg List.length h; rw [cellsOf_len, List.length_nil, Lx.place_len] at this; omega)
        have m3 : w2.cell? ⟨gB, us.length * 4 + 3, none⟩ = some (.int .i64 (bs (Lx.join [9, 13, 32] us)).size) := hcB _ _ (tok_at hend).2.2.2
        have hui : (0 : Int) ≤ (us.length : Int) := by omega
        have HCB := Lib.hid hcB
        clear hcB hend
        go_wp2
        obtain ⟨W2, hW2⟩ : ∃ W2, W2 = w2.alloc (.cells #[.int .i64 0, .int .i64 0] 25) := ⟨_, rfl⟩
        rw [← hW2]
        have hB2 : Below w2.heap.size w2 W2 := by rw [hW2]; exact (Below.refl _ _).alloc (Nat.le_refl _) _
        have hwW : Below w.heap.size w W2 := below_go (below_go hwr hb2) hB2
        have hlm : Below W0.heap.size W0 W2 := below_go (below_go hbr hb2) hB2
        have HM : Hid (∀ j u, (cellsOf (Lx.place [9, 13, 32] 0 us))[j]? = some u → W2.cell? ⟨gB, j, none⟩ = some u) := fun j u hu => by rw [hB2.cell (p := ⟨gB, j, none⟩) hgB]; exact HCB.out j u hu
        have HL : Hid (∀ j u, (cellsOf (us ++ [(⟨0, [], 0, z⟩ : Lx.Tk)]))[j]? = some u → W2.cell? ⟨g, j, none⟩ = some u) := fun j u hu => by rw [hlm.cell (p := ⟨g, j, none⟩) hgW]; exact HC.out j u hu
        clear hW2 hB2 hlm HCB HC m3 hb2 hbr
        go_loopw [12] (fun i wx => ∃ j : Nat, j ≤ us.length + 1 ∧ i = .int .i64 j ∧ ∃ n, wx = W2.drewN n) (fun i _ => us.length + 1 - (intOf i).toNat)
        case atStart => exact ⟨0, by omega, rfl, 0, rfl⟩
        case round =>
          obtain ⟨j, hj, rfl, n, rfl⟩ := hrel
          by_cases hlt : j < us.length + 1
          · obtain ⟨t, ht⟩ : ∃ t, (us ++ [(⟨0, [], 0, z⟩ : Lx.Tk)])[j]? = some t := ⟨_, List.getElem?_eq_getElem (by simp; omega)⟩
            obtain ⟨p, hp⟩ := Lx.back_same [9, 13, 32] us z j t ht
            obtain ⟨x0, x1, x2, -⟩ := tok_at ht
            obtain ⟨y0, y1, y2, y3⟩ := tok_at hp
            have a0 := HL.out _ _ x0
            have a1 := HL.out _ _ x1
            have a2 := HL.out _ _ x2
            have b0 := HM.out _ _ y0
            have b1 := HM.out _ _ y1
            have b2 := HM.out _ _ y2
            have b3 := HM.out _ _ y3
            have hji : (j : Int) < (us.length : Int) + 1 := by omega
            clear ht x0 x1 x2 y0 y1 y2 y3
            by_cases hj0 : j = 0
            · have hd0 : decide ((0 : Int) < (j : Int)) = false := decide_eq_false (by omega)
              have hd1 : decide (0 < j) = false := decide_eq_false (by omega)
              clear hp b3 hj0
              go_wp2
              go_quiet (fail)
              go_wp2
              refine ⟨⟨j + 1, by omega, by go_num, _, rfl⟩, ?_⟩
              simp [intOf]
              omega
            · obtain ⟨t', ht'⟩ : ∃ t', (Lx.place [9, 13, 32] 0 us)[j - 1]? = some t' := ⟨_, List.getElem?_eq_getElem (by rw [Lx.place_len]; omega)⟩
              have hup := Lx.place_up us 0 (j - 1) t' _ HG.out ht' (by rw [show j - 1 + 1 = j from by omega]; exact hp)
              have hup2 : t'.at_ < p := hup
              have c3 := HM.out _ _ (tok_at ht').2.2.2
              have hd0 : decide ((0 : Int) < (j : Int)) = true := decide_eq_true (by omega)
              have hd1 : decide (0 < j) = true := decide_eq_true (by omega)
              have hle : decide ((p : Int) ≤ (t'.at_ : Int)) = false := decide_eq_false (by omega)
              have hle1 : decide (p ≤ t'.at_) = false := decide_eq_false (by omega)
              have hj1 : (0 : Int) ≤ (j : Int) - 1 := by omega
              have hj2 : (1 : Int) ≤ (j : Int) := by omega
              have hj3 : (j : Int) - 1 < (us.length : Int) + 1 := by omega
              have n1 : ((j : Int) - 1).toNat = j - 1 := by omega
              have w3 : IntKind.i64.wrap ((j : Int) - 1) = (j : Int) - 1 := IntWalk.i64_in _ (by omega)
              clear hp ht' hup hup2
              go_wp2
              go_quiet (fail)
              clear n1 w3 hd0 hle hd1 hle1
              go_wp2
              refine ⟨⟨j + 1, by omega, by go_num, _, rfl⟩, ?_⟩
              simp [intOf]
              omega
          · have hji : (us.length : Int) + 1 ≤ (j : Int) := by omega
            go_wp2_with (go_at_call 12; refine (known_true _ (HE.out.below (below_drawn hwW n))).mono ?_; rintro e w3 ⟨rfl, hb3⟩)
            go_ret
            exact ⟨rfl, below_go (below_drawn hwW n) hb3⟩

set_option maxRecDepth 100000 in
set_option maxHeartbeats 2000000 in
theorem back_3 (s : ByteArray) (hs : s.size ≤ 1000) (how : Int) (hr : bits .and .i64 how 3 = 3) (us : List Lx.Tk) (z : Nat) (hg : ∀ t ∈ us, Lx.Good t) (hlen : us.length ≤ 6000) (htk : Lx.toks s.data.toList = (us ++ [⟨0, [], 0, z⟩], 0, 0)) (w : World) (he : Env w) :
    Calls Tryd.prog 5 #[.string s, .int .i64 how] w fun e w' => e = .returned (.bool true) ∧ Below w.heap.size w w' := by
  have hs2 := small_max (s := s) (by omega)
  have HE := Lib.hid he
  have HTK := Lib.hid htk
  have HG := Lib.hid hg
  clear htk he hg
  go_enter Tryd.func5, Tryd.ntmps5
  go_wp2_with fail
  refine (refTokens_at s hs2 _ 0 0 HTK.out w).mono ?_
  rintro e w1 ⟨A, c, rfl, hl1, hb1⟩
  have HL1 := Lib.hid hl1
  clear hl1
  go_wp2
  obtain ⟨W0, hW0⟩ : ∃ W0, W0 = (w1.alloc (.cells #[.int .i64 0, .int .i64 0] 25)).alloc (.cells #[.string ⟨#[32]⟩, .string ⟨#[10]⟩, .string ⟨#[9, 13, 32]⟩, .string ⟨#[32, 47, 47, 32, 120, 10]⟩] 9) := ⟨_, rfl⟩
  rw [← hW0]
  have hb0 : Below w1.heap.size w1 W0 := by rw [hW0]; exact ((Below.refl _ _).alloc (Nat.le_refl _) _).alloc (by simp) _
  have hw0 : Below w.heap.size w W0 := below_go hb1 hb0
  obtain ⟨g, rfl, hgl, hc⟩ := (HL1.out.below hb0) (by intro h; have := congrArg List.length h; rw [cellsOf_len, List.length_nil] at this; simp at this)
  have hgW : g < W0.heap.size := by have := hb0.size; omega
  have HC := Lib.hid hc
  clear hW0 hc HL1
  go_loopw [8, 9] (fun u i wr => ∃ j : Nat, j ≤ us.length ∧ i = .int .i64 j ∧ u = .string (bs (Lx.join [32, 47, 47, 32, 120, 10] (us.take j))) ∧ Below W0.heap.size W0 wr) (fun _ i _ => us.length - (intOf i).toNat)
  case atStart => exact ⟨0, Nat.zero_le _, rfl, rfl, Below.refl _ _⟩
  case round =>
    obtain ⟨j, hj, rfl, rfl, hbr⟩ := hrel
    have hJ := Lx.join_len (sep := [32, 47, 47, 32, 120, 10]) (by decide) (us.take j) (fun t ht => txt_len (HG.out t (List.mem_of_mem_take ht)))
    rw [List.length_take] at hJ
    by_cases hlt : j < us.length
    · obtain ⟨t, ht⟩ : ∃ t, us[j]? = some t := ⟨_, List.getElem?_eq_getElem hlt⟩
      have htg := HG.out t (List.mem_of_getElem? ht)
      have htl := txt_len htg
      have hta := text_any t (Lx.good_num htg)
      have ht2 : (us ++ [(⟨0, [], 0, z⟩ : Lx.Tk)])[j]? = some t := by rw [List.getElem?_append_left hlt]; exact ht
      obtain ⟨x0, x1, x2, x3⟩ := tok_at ht2
      have a0 := HC.out _ _ x0
      have a1 := HC.out _ _ x1
      have a2 := HC.out _ _ x2
      have a3 := HC.out _ _ x3
      rw [← hbr.cell (p := ⟨g, _, none⟩) hgW] at a0 a1 a2 a3
      have hji : (j : Int) < (us.length : Int) := by omega
      have hz1 : (bs (Lx.join [32, 47, 47, 32, 120, 10] (us.take j))).size + (bs (Lx.txt t)).size ≤ 9223372036854775807 := by rw [bs_size, bs_size]; omega
      have hz2 : (bs (Lx.join [32, 47, 47, 32, 120, 10] (us.take j))).size + (bs (Lx.txt t)).size + 6 ≤ 9223372036854775807 := by rw [bs_size, bs_size]; omega
      have hz3 : (bs (Lx.join [32, 47, 47, 32, 120, 10] (us.take j)) ++ bs (Lx.txt t)).size + 6 ≤ 9223372036854775807 := by rw [ByteArray.size_append, bs_size, bs_size]; omega
      have HT := Lib.hid hta
      have HTT := Lib.hid ht
      clear hta ht ht2 x0 x1 x2 x3 htg hJ htl
      go_wp2_with (go_at_call 17; refine (HT.out _).mono ?_; rintro e w2 ⟨rfl, hb2⟩)
      refine ⟨⟨j + 1, by omega, by go_num, congrArg Value.string ((cat3 _ _ [32, 47, 47, 32, 120, 10]).trans (by rw [Lx.join_take [32, 47, 47, 32, 120, 10] HTT.out])), hbr.trans (hb2.mono hbr.size)⟩, ?_⟩
      simp [intOf]
      omega
    · obtain rfl : j = us.length := by omega
      rw [join_all [32, 47, 47, 32, 120, 10] us us.length (Nat.le_refl _)]
      have hwr : Below w.heap.size w wr := below_go hw0 hbr
      have hji : ¬ (us.length : Int) < (us.length : Int) := by omega
      by_cases hJ6 : 6000 < (Lx.join [32, 47, 47, 32, 120, 10] us).length
      · have hJ7 : 6000 < (bs (Lx.join [32, 47, 47, 32, 120, 10] us)).size := hJ6
        go_wp2_with (go_at_call 12; refine (known_true _ (HE.out.below hwr)).mono ?_; rintro e w3 ⟨rfl, hb3⟩)
        go_ret
        exact ⟨rfl, below_go hwr hb3⟩
      · have hJ7 : (bs (Lx.join [32, 47, 47, 32, 120, 10] us)).size ≤ 6000 := by rw [bs_size]; omega
        clear hJ hji
        have hend := Lx.place_end [32, 47, 47, 32, 120, 10] us 0
        rw [Nat.zero_add] at hend
        go_wp2_with fail
        refine (tokens_back Lx.between3 us HG.out (by omega) _ (HE.out.below hwr)).mono ?_
        rintro e w2 ⟨B, d, rfl, hl2, hb2⟩
        obtain ⟨gB, rfl, hgB, hcB⟩ := hl2 (by intro h; have := congrArg List.length h; rw [cellsOf_len, List.length_nil, Lx.place_len] at this; omega)
        have m3 : w2.cell? ⟨gB, us.length * 4 + 3, none⟩ = some (.int .i64 (bs (Lx.join [32, 47, 47, 32, 120, 10] us)).size) := hcB _ _ (tok_at hend).2.2.2
        have hui : (0 : Int) ≤ (us.length : Int) := by omega
        have HCB := Lib.hid hcB
        clear hcB hend
        go_wp2
        obtain ⟨W2, hW2⟩ : ∃ W2, W2 = w2.alloc (.cells #[.int .i64 0, .int .i64 0] 25) := ⟨_, rfl⟩
        rw [← hW2]
        have hB2 : Below w2.heap.size w2 W2 := by rw [hW2]; exact (Below.refl _ _).alloc (Nat.le_refl _) _
        have hwW : Below w.heap.size w W2 := below_go (below_go hwr hb2) hB2
        have hlm : Below W0.heap.size W0 W2 := below_go (below_go hbr hb2) hB2
        have HM : Hid (∀ j u, (cellsOf (Lx.place [32, 47, 47, 32, 120, 10] 0 us))[j]? = some u → W2.cell? ⟨gB, j, none⟩ = some u) := fun j u hu => by rw [hB2.cell (p := ⟨gB, j, none⟩) hgB]; exact HCB.out j u hu
        have HL : Hid (∀ j u, (cellsOf (us ++ [(⟨0, [], 0, z⟩ : Lx.Tk)]))[j]? = some u → W2.cell? ⟨g, j, none⟩ = some u) := fun j u hu => by rw [hlm.cell (p := ⟨g, j, none⟩) hgW]; exact HC.out j u hu
        clear hW2 hB2 hlm HCB HC m3 hb2 hbr
        go_loopw [12] (fun i wx => ∃ j : Nat, j ≤ us.length + 1 ∧ i = .int .i64 j ∧ ∃ n, wx = W2.drewN n) (fun i _ => us.length + 1 - (intOf i).toNat)
        case atStart => exact ⟨0, by omega, rfl, 0, rfl⟩
        case round =>
          obtain ⟨j, hj, rfl, n, rfl⟩ := hrel
          by_cases hlt : j < us.length + 1
          · obtain ⟨t, ht⟩ : ∃ t, (us ++ [(⟨0, [], 0, z⟩ : Lx.Tk)])[j]? = some t := ⟨_, List.getElem?_eq_getElem (by simp; omega)⟩
            obtain ⟨p, hp⟩ := Lx.back_same [32, 47, 47, 32, 120, 10] us z j t ht
            obtain ⟨x0, x1, x2, -⟩ := tok_at ht
            obtain ⟨y0, y1, y2, y3⟩ := tok_at hp
            have a0 := HL.out _ _ x0
            have a1 := HL.out _ _ x1
            have a2 := HL.out _ _ x2
            have b0 := HM.out _ _ y0
            have b1 := HM.out _ _ y1
            have b2 := HM.out _ _ y2
            have b3 := HM.out _ _ y3
            have hji : (j : Int) < (us.length : Int) + 1 := by omega
            clear ht x0 x1 x2 y0 y1 y2 y3
            by_cases hj0 : j = 0
            · have hd0 : decide ((0 : Int) < (j : Int)) = false := decide_eq_false (by omega)
              have hd1 : decide (0 < j) = false := decide_eq_false (by omega)
              clear hp b3 hj0
              go_wp2
              go_quiet (fail)
              go_wp2
              refine ⟨⟨j + 1, by omega, by go_num, _, rfl⟩, ?_⟩
              simp [intOf]
              omega
            · obtain ⟨t', ht'⟩ : ∃ t', (Lx.place [32, 47, 47, 32, 120, 10] 0 us)[j - 1]? = some t' := ⟨_, List.getElem?_eq_getElem (by rw [Lx.place_len]; omega)⟩
              have hup := Lx.place_up us 0 (j - 1) t' _ HG.out ht' (by rw [show j - 1 + 1 = j from by omega]; exact hp)
              have hup2 : t'.at_ < p := hup
              have c3 := HM.out _ _ (tok_at ht').2.2.2
              have hd0 : decide ((0 : Int) < (j : Int)) = true := decide_eq_true (by omega)
              have hd1 : decide (0 < j) = true := decide_eq_true (by omega)
              have hle : decide ((p : Int) ≤ (t'.at_ : Int)) = false := decide_eq_false (by omega)
              have hle1 : decide (p ≤ t'.at_) = false := decide_eq_false (by omega)
              have hj1 : (0 : Int) ≤ (j : Int) - 1 := by omega
              have hj2 : (1 : Int) ≤ (j : Int) := by omega
              have hj3 : (j : Int) - 1 < (us.length : Int) + 1 := by omega
              have n1 : ((j : Int) - 1).toNat = j - 1 := by omega
              have w3 : IntKind.i64.wrap ((j : Int) - 1) = (j : Int) - 1 := IntWalk.i64_in _ (by omega)
              clear hp ht' hup hup2
              go_wp2
              go_quiet (fail)
              clear n1 w3 hd0 hle hd1 hle1
              go_wp2
              refine ⟨⟨j + 1, by omega, by go_num, _, rfl⟩, ?_⟩
              simp [intOf]
              omega
          · have hji : (us.length : Int) + 1 ≤ (j : Int) := by omega
            go_wp2_with (go_at_call 12; refine (known_true _ (HE.out.below (below_drawn hwW n))).mono ?_; rintro e w3 ⟨rfl, hb3⟩)
            go_ret
            exact ⟨rfl, below_go (below_drawn hwW n) hb3⟩

theorem lexBack_walk (s : ByteArray) (how : Int) (hs : s.size ≤ maxLen) (_ : -9223372036854775808 ≤ how ∧ how ≤ 9223372036854775807) (w : World) (he : Env w) :
    Calls Tryd.prog 5 #[.string s, .int .i64 how] w fun e w' => e = .returned (.bool true) ∧ Below w.heap.size w w' := by
  obtain ⟨ts, E, K, htk⟩ : ∃ ts E K, Lx.toks s.data.toList = (ts, E, K) := ⟨_, _, _, rfl⟩
  by_cases h : 1000 < s.size ∨ E ≠ 0
  · exact back_skip s hs how ts E K htk h w
  · have h1 : s.size ≤ 1000 := by omega
    obtain rfl : E = 0 := by omega
    obtain ⟨rfl, us, rfl, hg⟩ := Lx.toks_shape htk
    have hlen := Lx.toks_len s.data.toList
    rw [htk] at hlen
    simp only [List.length_append, List.length_singleton] at hlen
    rcases and3 how with hr | hr | hr | hr
    · exact back_0 s h1 how hr us _ hg (by omega) htk w he
    · exact back_1 s h1 how hr us _ hg (by omega) htk w he
    · exact back_2 s h1 how hr us _ hg (by omega) htk w he
    · exact back_3 s h1 how hr us _ hg (by omega) htk w he
end Go.Proofs.YtconbldpomjgkaaDoor
