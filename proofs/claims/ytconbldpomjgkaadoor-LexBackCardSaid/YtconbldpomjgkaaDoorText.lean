/-
  The contract of text (the laws'): what a token is written as.
-/
import Derived.Test.YtconbldpomjgkaaDoorWalksL
import Derived.Test.YtconbldpomjgkaaDoorBack
namespace Go.Proofs.YtconbldpomjgkaaDoor
open Go.RowKit
open Go.Lib (decDigits)

def decP (q : Nat) : List UInt8 := if q = 0 then [] else decDigits q
theorem dec_step (q : Nat) : decDigits q = decP (q / 10) ++ [UInt8.ofNat (48 + q % 10)] := by
  by_cases h : q < 10
  · rw [Nums.dec_lo h, decP, if_pos (by omega), show q % 10 = q from by omega]; rfl
  · rw [Nums.dec_hi h, decP, if_neg (by omega)]
theorem decP_pos {q : Nat} (h : 0 < q) : decP q = decDigits q := if_neg (by omega)

/-- The loop of text: what has been written, what is left. -/
def TextAt (N q : Nat) (l : List UInt8) : Prop := (l = [] ∧ q = N) ∨ (l ≠ [] ∧ decDigits N = decP q ++ l)
theorem textAt_next {N q : Nat} {l : List UInt8} (h : TextAt N q l) (hq : 0 < q ∨ l = []) : TextAt N (q / 10) (UInt8.ofNat (48 + q % 10) :: l) := by
  refine Or.inr ⟨by simp, ?_⟩
  rcases h with ⟨rfl, rfl⟩ | ⟨hne, h⟩
  · exact dec_step q
  · have hq0 : 0 < q := by
      rcases hq with h | h
      · exact h
      · exact absurd h hne
    rw [h, decP_pos hq0, dec_step q, List.append_assoc]; rfl
theorem textAt_end {N : Nat} {l : List UInt8} (h : TextAt N 0 l) (hl : l ≠ []) : l = decDigits N := by
  rcases h with ⟨h, _⟩ | ⟨_, h⟩
  · exact absurd h hl
  · rw [h, decP, if_pos rfl]; rfl

theorem dec_len : ∀ (k N : Nat), N < 10 ^ (k + 1) → (decDigits N).length ≤ k + 1
  | 0, N, h => by rw [Nums.dec_lo (by simpa using h)]; simp
  | k + 1, N, h => by
    by_cases h10 : N < 10
    · rw [Nums.dec_lo h10]; simp
    · have hk : N / 10 < 10 ^ (k + 1) := by
        rw [Nat.div_lt_iff_lt_mul (by omega)]
        rw [Nat.pow_succ] at h
        exact h
      have := dec_len k (N / 10) hk
      rw [Nums.dec_hi h10, List.length_append]; simp; omega
theorem dec_len19 {N : Nat} (h : N ≤ 9223372036854775807) : (decDigits N).length ≤ 19 := dec_len 18 N (by omega)

theorem textAt_len {N q : Nat} {l : List UInt8} (h : TextAt N q l) (hN : N ≤ 9223372036854775807) : l.length ≤ 19 := by
  rcases h with ⟨rfl, _⟩ | ⟨_, h⟩
  · simp
  · have h1 := congrArg List.length h
    rw [List.length_append] at h1
    have := dec_len19 hN
    omega

theorem conv_one (wr : World) (q : Nat) : (convert 47 9 (.slice (some ⟨wr.heap.size, 0, none⟩) 1 1)).run Tryd.prog (wr.alloc (.cells #[.int .u8 (48 + (q : Int) % 10)] 5)) = .ok (.string (bs [UInt8.ofNat (48 + q % 10)])) (wr.alloc (.cells #[.int .u8 (48 + (q : Int) % 10)] 5)) := by
  rw [run_convert_bytes_arg (wr.alloc (.cells #[.int .u8 (48 + (q : Int) % 10)] 5)) 47 5 Tryd.underlying47 Tryd.underlying5 wr.heap.size 0 1 1 [48 + (q : Int) % 10] rfl (fun i hi => by
    obtain rfl : i = 0 := by omega
    rw [cell_of_row _ _ _ _ _ _ (heap_alloc_new wr _)]; rfl) 9 Tryd.underlying9]
  have : (48 + (q : Int) % 10).toNat = 48 + q % 10 := by omega
  rw [show strOfNums [48 + (q : Int) % 10] = bs [UInt8.ofNat (48 + (q : Int) % 10).toNat] from rfl, this]
theorem cat_one (c : UInt8) (l : List UInt8) : bs [c] ++ bs l = bs (c :: l) := by
  apply ByteArray.ext
  rw [ByteArray.data_append]
  simp [bs]
theorem one_size (c : UInt8) (l : List UInt8) : (bs [c] ++ bs l).size = l.length + 1 := by rw [cat_one, bs_size]; rfl

def strLen0 (v : Value) : Nat := match v with | .string b => b.size | _ => 0

set_option maxHeartbeats 1000000 in
theorem text_num (N p : Nat) (tx : ByteArray) (hN : N ≤ 9223372036854775807) (w : World) :
    Calls Tryd.prog 17 #[.agg #[.int .i64 2, .string tx, .int .i64 N, .int .i64 p]] w fun e w' => e = .returned (.string (bs (decDigits N))) ∧ Below w.heap.size w w' := by
  have hb0 : Below w.heap.size w (w.alloc (.cells #[.int .i64 2, .string tx, .int .i64 N, .int .i64 p] 34)) := (Below.refl _ _).alloc (Nat.le_refl _) _
  have HB := Lib.hid hb0
  clear hb0
  go_enter Tryd.func17, Tryd.ntmps17
  go_wp2
  go_loopw [3, 4] (fun s n wr => ∃ (q : Nat) (l : List UInt8), q ≤ N ∧ n = .int .i64 q ∧ s = .string (bs l) ∧ TextAt N q l ∧ Below w.heap.size w wr) (fun s n _ => (intOf n).toNat + (if strLen0 s = 0 then 1 else 0))
  case atStart => exact ⟨N, [], Nat.le_refl _, rfl, rfl, Or.inl ⟨rfl, rfl⟩, HB.out⟩
  case round =>
    obtain ⟨q, l, hq, rfl, rfl, hT, hb⟩ := hrel
    have hll := textAt_len hT hN
    have HT := Lib.hid hT
    have hq9 : q ≤ 9223372036854775807 := by omega
    have hqi : (0 : Int) ≤ (q : Int) := by omega
    obtain ⟨d, hd⟩ : ∃ d, UInt8.ofNat (48 + q % 10) = d := ⟨_, rfl⟩
    have hsz : (bs [d]).size + (bs l).size ≤ 9223372036854775807 := by rw [bs_size, bs_size]; simp; omega
    have HD := Lib.hid hd
    clear hT
    have hconv := conv_one wr q
    rw [hd] at hconv
    clear hd
    by_cases hq0 : 0 < q
    · have hq0i : (0 : Int) < (q : Int) := by omega
      go_wp2
      refine ⟨⟨q / 10, _, by omega, by go_num, congrArg Value.string (cat_one _ l), by rw [← HD.out]; exact textAt_next HT.out (Or.inl hq0), hb.alloc hb.size _⟩, ?_⟩
      simp [intOf, strLen0, bs_size]
      omega
    · have hq1 : q = 0 := by omega
      cases l with
      | nil =>
        have HQ := Lib.hid hq1
        have n2 : (bs []).toList.isEmpty = true := by rw [Lib.toList_data]; rfl
        have n1 : ((bs []).toList == []) = true := by rw [Lib.toList_data]; rfl
        have hq0i : (q : Int) ≤ 0 := by omega
        clear hq1
        go_wp2
        refine ⟨⟨q / 10, _, by omega, by go_num, congrArg Value.string (cat_one _ []), by rw [← HD.out]; exact textAt_next HT.out (Or.inr rfl), hb.alloc hb.size _⟩, ?_⟩
        have hq2 := HQ.out
        simp [intOf, strLen0, bs_size]
        omega
      | cons c l =>
        have HQ := Lib.hid hq1
        have n1 := ne_beq (bs (c :: l)) (by rw [bs_size]; simp)
        have n2 := ne_empty (bs (c :: l)) (by rw [bs_size]; simp)
        have hq0i : (q : Int) ≤ 0 := by omega
        clear hq1
        go_wp2
        go_ret
        have hT := HT.out
        rw [HQ.out] at hT
        exact ⟨congrArg (fun l => Ending.returned (.string (bs l))) (textAt_end hT (by simp)), hb⟩

set_option maxHeartbeats 1000000 in
theorem text_other (K n p : Nat) (tx : ByteArray) (hK : K ≠ 2) (w : World) :
    Calls Tryd.prog 17 #[.agg #[.int .i64 K, .string tx, .int .i64 n, .int .i64 p]] w fun e w' => e = .returned (.string tx) ∧ Below w.heap.size w w' := by
  have hk : ((K : Int) == 2) = false := beq_eq_false_iff_ne.2 (by omega)
  clear hK
  go_enter Tryd.func17, Tryd.ntmps17
  go_wp2
  go_ret
  exact ⟨rfl, (Below.refl _ _).alloc (Nat.le_refl _) _⟩

theorem txt_len {t : Lx.Tk} (h : Lx.Good t) : (Lx.txt t).length ≤ 19 := by
  refine Lx.good_cases (P := fun t => (Lx.txt t).length ≤ 19) h ?_ ?_ ?_ ?_
  · intro t p hw _ _
    have := Lx.isWord_len hw
    show t.length ≤ 19; omega
  · intro t p _ hn _ _
    have := Lx.isName_len hn
    show t.length ≤ 19; omega
  · intro n p hn
    exact dec_len19 hn
  · intro g p hg
    have h2 : ∀ w ∈ Lx.signs, w.length ≤ 2 := by decide
    have := h2 g hg
    show g.length ≤ 19; omega

theorem text_any (t : Lx.Tk) (hN : t.num ≤ 9223372036854775807) (w : World) :
    Calls Tryd.prog 17 #[.agg #[.int .i64 t.kind, .string (bs t.text), .int .i64 t.num, .int .i64 t.at_]] w fun e w' => e = .returned (.string (bs (Lx.txt t))) ∧ Below w.heap.size w w' := by
  by_cases h : t.kind = 2
  · rw [Lx.txt, if_pos h, h]
    exact text_num t.num t.at_ (bs t.text) hN w
  · rw [Lx.txt, if_neg h]
    exact text_other t.kind t.num t.at_ (bs t.text) h w
end Go.Proofs.YtconbldpomjgkaaDoor
