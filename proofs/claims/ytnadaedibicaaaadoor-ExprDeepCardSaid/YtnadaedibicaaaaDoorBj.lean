/-
  ExprBinds: of two binary signs the one of the higher level binds first, of two of one level the left one: the walk.
-/
import Derived.Test.YtnadaedibicaaaaDoorBi
namespace Go.Proofs.YtnadaedibicaaaaDoor
open Go.RowKit
open Px (RT tokAt)
open Pe

theorem same_set2 {w1 : World} {B : Nat} {T : TypeId} {a b : Value} (h : w1.heap[B]? = some (.cells #[a, b] T (0, 0))) : ∀ k : Nat, ((w1.setCell ⟨B, 0, none⟩ a).setCell ⟨B, 1, none⟩ b).heap[k]? = w1.heap[k]? := by
  intro k
  by_cases hk : k = B
  · subst hk
    rw [duo_set1 (duo_set0 h a) b, h]
  · exact (Below.heap_setCell _ ⟨B, 1, none⟩ b k hk).trans (Below.heap_setCell _ ⟨B, 0, none⟩ a k hk)
theorem Toks.same {w w' : World} {R : Nat} {S : Value} {ts : List RT} (h : Toks w R S ts) (hs : ∀ k : Nat, w'.heap[k]? = w.heap[k]?) : Toks w' R S ts := by
  obtain ⟨p, n, c, hS, hn, hm⟩ := h.val
  refine ⟨⟨p, n, c, hS, hn, ?_⟩, h.short⟩
  rcases hm with h0 | ⟨b, off, hp, hb, hne, hc⟩
  · exact .inl h0
  · refine .inr ⟨b, off, hp, ?_, hne, fun j t ht => ?_⟩
    · have hh := hs b
      rw [Array.getElem?_eq_getElem hb] at hh
      exact (Array.getElem?_eq_some_iff.1 hh).1
    · have := hc j t ht
      rw [cell_same (hs b), cell_same (hs b), cell_same (hs b), cell_same (hs b)]
      exact this
theorem Toks.re2 {w : World} {R : Nat} {S : Value} {ts : List RT} (h : Toks w R S ts) : Toks w w.heap.size S ts := h.re (Nat.le_refl _)
theorem cat_run (a b : ByteArray) (h : a.size + b.size ≤ 9223372036854775807) (w' : World) : (binOp .add 9 (.string a) (.string b)).run Tryd.prog w' = .ok (.string (a ++ b)) w' := by
  simp [go_sem, h]
theorem cell_in {w : World} {a o : Nat} {v : Value} (h : w.cell? ⟨a, o, none⟩ = some v) : a < w.heap.size := by
  rcases Nat.lt_or_ge a w.heap.size with h' | h'
  · exact h'
  · simp [World.cell?, Array.getElem?_eq_none h'] at h
theorem hold1 {w w' : World} {a o : Nat} {v : Value} (hb : Below w.heap.size w w') (h : w.cell? ⟨a, o, none⟩ = some v) : w'.cell? ⟨a, o, none⟩ = some v := (hb.cell (p := ⟨a, o, none⟩) (cell_in h)).trans h
theorem hold6 {w w' : World} {a1 o1 a2 o2 a3 o3 a4 o4 a5 o5 a6 o6 : Nat} {v1 v2 v3 v4 v5 v6 : Value} (hb : Below w.heap.size w w') (h1 : w.cell? ⟨a1, o1, none⟩ = some v1) (h2 : w.cell? ⟨a2, o2, none⟩ = some v2) (h3 : w.cell? ⟨a3, o3, none⟩ = some v3) (h4 : w.cell? ⟨a4, o4, none⟩ = some v4) (h5 : w.cell? ⟨a5, o5, none⟩ = some v5) (h6 : w.cell? ⟨a6, o6, none⟩ = some v6) :
    w'.cell? ⟨a1, o1, none⟩ = some v1 ∧ w'.cell? ⟨a2, o2, none⟩ = some v2 ∧ w'.cell? ⟨a3, o3, none⟩ = some v3 ∧ w'.cell? ⟨a4, o4, none⟩ = some v4 ∧ w'.cell? ⟨a5, o5, none⟩ = some v5 ∧ w'.cell? ⟨a6, o6, none⟩ = some v6 :=
  ⟨hold1 hb h1, hold1 hb h2, hold1 hb h3, hold1 hb h4, hold1 hb h5, hold1 hb h6⟩
theorem Is.heads {w : World} {B : Nat} {e : Ex} {vs : List Value} (h : Is w B e vs) : vs[0]? = some (.int .i64 (exKind e)) ∧ vs[2]? = some (.string (cbs (exName e))) := by
  cases e
  obtain ⟨p, c, rfl, -⟩ := h.kids
  exact ⟨rfl, rfl⟩
theorem Is.two {w : World} {B : Nat} {k num : Int} {name ofn : List UInt8} {dims : Int} {e0 e1 : Ex} {at_ b r d ref : Int} {vs : List Value} (h : Is w B (.mk k num name ofn dims [e0, e1] at_ b r d ref) vs) :
    ∃ bl off c, vs = exCells k num name ofn dims (.slice (some ⟨bl, off, none⟩) 2 c) at_ b r d ref ∧ bl < w.heap.size ∧ w.cell? ⟨bl, off, none⟩ = some (.int .i64 (exKind e0)) ∧ w.cell? ⟨bl, off + 2, none⟩ = some (.string (cbs (exName e0))) ∧ w.cell? ⟨bl, off + 11, none⟩ = some (.int .i64 (exKind e1)) ∧ w.cell? ⟨bl, off + 13, none⟩ = some (.string (cbs (exName e1))) := by
  obtain ⟨p, c, hv, hk⟩ := h.kids
  rcases hk with hk | ⟨bl, off, rfl, hbl, hB, ha⟩
  · cases hk
  · obtain ⟨vs0, hi0, hc0⟩ := At.get _ off 0 e0 ha rfl
    obtain ⟨vs1, hi1, hc1⟩ := At.get _ off 1 e1 ha rfl
    refine ⟨bl, off, c, hv, hbl, ?_, ?_, ?_, ?_⟩
    · have := hc0 0 _ hi0.heads.1; simpa using this
    · have := hc0 2 _ hi0.heads.2; simpa using this
    · have := hc1 0 _ hi1.heads.1; simpa using this
    · have := hc1 2 _ hi1.heads.2; simpa using this

set_option maxRecDepth 8000 in
set_option maxHeartbeats 8000000 in
theorem binds_in (w : World) (i j : Nat) (hi : i < 11) (hj : j < 11) (hops : OpsIn w) :
    Calls Tryd.prog 7 #[.int .i64 (i : Int), .int .i64 (j : Int)] w fun e w' => e = .returned (.bool true) ∧ Below w.heap.size w w' := by
  obtain ⟨wz, hwz⟩ : ∃ wz, wz = (((w.alloc (.cells #[.string ⟨#[124, 124]⟩, .string ⟨#[38, 38]⟩, .string ⟨#[60]⟩, .string ⟨#[60, 61]⟩, .string ⟨#[61, 61]⟩, .string ⟨#[33, 61]⟩, .string ⟨#[43]⟩, .string ⟨#[45]⟩, .string ⟨#[42]⟩, .string ⟨#[47]⟩, .string ⟨#[37]⟩] 9)).alloc (.cells #[.int .i64 24, .int .i64 23, .int .i64 19, .int .i64 20, .int .i64 21, .int .i64 22, .int .i64 14, .int .i64 15, .int .i64 16, .int .i64 17, .int .i64 18] 3)).alloc (.cells #[.int .i64 1, .int .i64 2, .int .i64 3, .int .i64 3, .int .i64 3, .int .i64 3, .int .i64 4, .int .i64 4, .int .i64 5, .int .i64 5, .int .i64 5] 3)) := ⟨_, rfl⟩
  have hbz : Below w.heap.size w wz := by rw [hwz]; exact three_below w _ _ _
  have hS : wz.heap[w.heap.size]? = some (.cells #[.string ⟨#[124, 124]⟩, .string ⟨#[38, 38]⟩, .string ⟨#[60]⟩, .string ⟨#[60, 61]⟩, .string ⟨#[61, 61]⟩, .string ⟨#[33, 61]⟩, .string ⟨#[43]⟩, .string ⟨#[45]⟩, .string ⟨#[42]⟩, .string ⟨#[47]⟩, .string ⟨#[37]⟩] 9 (0, 0)) := by rw [hwz]; exact alloc_box _ (alloc_box _ (heap_alloc_new w _))
  have hK : wz.heap[w.heap.size + 1]? = some (.cells #[.int .i64 24, .int .i64 23, .int .i64 19, .int .i64 20, .int .i64 21, .int .i64 22, .int .i64 14, .int .i64 15, .int .i64 16, .int .i64 17, .int .i64 18] 3 (0, 0)) := by rw [hwz]; have := alloc_box (.cells #[.int .i64 1, .int .i64 2, .int .i64 3, .int .i64 3, .int .i64 3, .int .i64 3, .int .i64 4, .int .i64 4, .int .i64 5, .int .i64 5, .int .i64 5] 3) (heap_alloc_new (w.alloc (.cells #[.string ⟨#[124, 124]⟩, .string ⟨#[38, 38]⟩, .string ⟨#[60]⟩, .string ⟨#[60, 61]⟩, .string ⟨#[61, 61]⟩, .string ⟨#[33, 61]⟩, .string ⟨#[43]⟩, .string ⟨#[45]⟩, .string ⟨#[42]⟩, .string ⟨#[47]⟩, .string ⟨#[37]⟩] 9)) (.cells #[.int .i64 24, .int .i64 23, .int .i64 19, .int .i64 20, .int .i64 21, .int .i64 22, .int .i64 14, .int .i64 15, .int .i64 16, .int .i64 17, .int .i64 18] 3)); rw [size_alloc] at this; exact this
  have hL : wz.heap[w.heap.size + 1 + 1]? = some (.cells #[.int .i64 1, .int .i64 2, .int .i64 3, .int .i64 3, .int .i64 3, .int .i64 3, .int .i64 4, .int .i64 4, .int .i64 5, .int .i64 5, .int .i64 5] 3 (0, 0)) := by rw [hwz]; have := heap_alloc_new ((w.alloc (.cells #[.string ⟨#[124, 124]⟩, .string ⟨#[38, 38]⟩, .string ⟨#[60]⟩, .string ⟨#[60, 61]⟩, .string ⟨#[61, 61]⟩, .string ⟨#[33, 61]⟩, .string ⟨#[43]⟩, .string ⟨#[45]⟩, .string ⟨#[42]⟩, .string ⟨#[47]⟩, .string ⟨#[37]⟩] 9)).alloc (.cells #[.int .i64 24, .int .i64 23, .int .i64 19, .int .i64 20, .int .i64 21, .int .i64 22, .int .i64 14, .int .i64 15, .int .i64 16, .int .i64 17, .int .i64 18] 3)) (.cells #[.int .i64 1, .int .i64 2, .int .i64 3, .int .i64 3, .int .i64 3, .int .i64 3, .int .i64 4, .int .i64 4, .int .i64 5, .int .i64 5, .int .i64 5] 3); simp only [size_alloc] at this; exact this
  have HS := Lib.hid hS
  have HK := Lib.hid hK
  have HL := Lib.hid hL
  have HBZ := Lib.hid hbz
  have si := cellrow hS i _ (sg_at i hi)
  have sj := cellrow hS j _ (sg_at j hj)
  have HOP : Hid (OpsIn wz) := by obtain ⟨gt, gfr, hg⟩ := hops; exact ⟨gt, gfr, (hbz.block _ (heap_lt' hg)).trans hg⟩
  have HF := Lib.hid (bin_facts hi hj)
  have hd1 : decide ((i : Int) < 0) = false := decide_eq_false (by omega)
  have hd2 : decide ((11 : Int) ≤ (i : Int)) = false := decide_eq_false (by omega)
  have hd3 : decide ((j : Int) < 0) = false := decide_eq_false (by omega)
  have hd4 : decide ((11 : Int) ≤ (j : Int)) = false := decide_eq_false (by omega)
  have hd5 : decide (11 ≤ i) = false := decide_eq_false (by omega)
  have hd6 : decide (11 ≤ j) = false := decide_eq_false (by omega)
  have hi1 : (i : Int) < 11 := by omega
  have hj1 : (j : Int) < 11 := by omega
  have hz1 := sg_len i
  have hz2 := sg_len j
  clear hS hK hL hbz hops
  go_enter Tryd.func7, Tryd.ntmps7
  go_wp2_with fail
  rw [← hwz]
  obtain ⟨SA, hSA⟩ : ∃ SA, SA = cbs (sg i) := ⟨_, rfl⟩
  obtain ⟨SB, hSB⟩ : ∃ SB, SB = cbs (sg j) := ⟨_, rfl⟩
  have hs1 : SA.size ≤ 2 := by rw [hSA, cbs_size]; exact hz1
  have hs2 : SB.size ≤ 2 := by rw [hSB, cbs_size]; exact hz2
  have hq1 : 2 + SA.size ≤ 9223372036854775807 := by omega
  have hq2 : 2 + SA.size + 3 ≤ 9223372036854775807 := by omega
  have hq3 : 2 + SA.size + 3 + SB.size ≤ 9223372036854775807 := by omega
  have hq4 : 2 + SA.size + 3 + SB.size + 2 ≤ 9223372036854775807 := by omega
  rw [← hSA] at si
  rw [← hSB] at sj
  obtain ⟨STR, hSTR⟩ : ∃ STR : ByteArray, STR = (⟨#[97, 32]⟩ : ByteArray) ++ SA ++ ⟨#[32, 98, 32]⟩ ++ SB ++ ⟨#[32, 99]⟩ := ⟨_, rfl⟩
  have hdat : STR.data.toList = binT i j := by
    rw [hSTR, hSA, hSB, show (⟨#[97, 32]⟩ : ByteArray) = cbs [97, 32] from rfl, show (⟨#[32, 98, 32]⟩ : ByteArray) = cbs [32, 98, 32] from rfl, show (⟨#[32, 99]⟩ : ByteArray) = cbs [32, 99] from rfl, cbs_add, cbs_add, cbs_add, cbs_add]
    rfl
  have hszs : STR.size ≤ maxLen := by
    have : STR.size = STR.data.toList.length := by rw [Array.length_toList]; rfl
    rw [this, hdat]
    simp only [binT, List.length_append, List.length_cons, List.length_nil, maxLen]
    omega
  have htk := fun w1 => tokens_are STR hszs (binUs i j) 0 0 (by rw [hdat]; exact HF.out.1) w1
  rw [hSTR] at htk
  have HTK := Lib.hid htk
  have HSA := Lib.hid hSA
  clear hdat hszs htk hSTR hSB hz1 hz2 hwz
  obtain ⟨C1, hC1⟩ : ∃ C1 : ByteArray, C1 = (⟨#[97, 32]⟩ : ByteArray) ++ SA := ⟨_, rfl⟩
  obtain ⟨C2, hC2⟩ : ∃ C2 : ByteArray, C2 = C1 ++ ⟨#[32, 98, 32]⟩ := ⟨_, rfl⟩
  obtain ⟨C3, hC3⟩ : ∃ C3 : ByteArray, C3 = C2 ++ SB := ⟨_, rfl⟩
  obtain ⟨C4, hC4⟩ : ∃ C4 : ByteArray, C4 = C3 ++ ⟨#[32, 99]⟩ := ⟨_, rfl⟩
  have z1 : C1.size = 2 + SA.size := by rw [hC1, ByteArray.size_append]; rfl
  have z2 : C2.size = C1.size + 3 := by rw [hC2, ByteArray.size_append]; rfl
  have z3 : C3.size = C2.size + SB.size := by rw [hC3, ByteArray.size_append]
  have b1 : ∀ w', (Op.stringOp .add ⟨#[97, 32]⟩ SA).run Tryd.prog w' = .ok (.string C1) w' := fun w' => by rw [hC1]; exact cat_run _ _ (by show 2 + SA.size ≤ _; omega) w'
  have b2 : ∀ w', (Op.stringOp .add C1 ⟨#[32, 98, 32]⟩).run Tryd.prog w' = .ok (.string C2) w' := fun w' => by rw [hC2]; exact cat_run _ _ (by show C1.size + 3 ≤ _; omega) w'
  have b3 : ∀ w', (Op.stringOp .add C2 SB).run Tryd.prog w' = .ok (.string C3) w' := fun w' => by rw [hC3]; exact cat_run _ _ (by omega) w'
  have b4 : ∀ w', (Op.stringOp .add C3 ⟨#[32, 99]⟩).run Tryd.prog w' = .ok (.string C4) w' := fun w' => by rw [hC4]; exact cat_run _ _ (by show C3.size + 2 ≤ _; omega) w'
  have HTK2 : Hid (∀ w1, Calls Tryd.prog 8 #[.string C4] w1 fun e w' => ∃ (A : Option Addr) (c : Nat), e = .returned (.tuple #[.slice A (binUs i j).length c, .agg #[.int .i64 ((0 : Nat) : Int), .int .i64 ((0 : Nat) : Int)]]) ∧ Ln.Lies w' w'.heap.size A (Ln.cellsOf (binUs i j)) ∧ Below w1.heap.size w1 w') := by
    rw [hC4, hC3, hC2, hC1]; exact HTK.out
  clear hC1 hC2 hC3 hC4 z1 z2 z3 hq1 hq2 hq3 hq4 HTK hSA HSA hs1 hs2
  have HSZ : Hid (∀ o : Obj, (wz.alloc o).cell? ⟨w.heap.size, i, none⟩ = some (.string SA) ∧ (wz.alloc o).cell? ⟨w.heap.size, j, none⟩ = some (.string SB)) := fun o => ⟨(((Below.refl wz.heap.size wz).alloc (Nat.le_refl _) o).cell (p := ⟨w.heap.size, i, none⟩) (heap_lt' HS.out)).trans si, (((Below.refl wz.heap.size wz).alloc (Nat.le_refl _) o).cell (p := ⟨w.heap.size, j, none⟩) (heap_lt' HS.out)).trans sj⟩
  have HA1 := Lib.hid (HTK2.out wz.drew)
  have hltz : w.heap.size < wz.heap.size := heap_lt' HS.out
  go_region_held3 (fun w' => w'.cell? ⟨w.heap.size, i, none⟩ = some (.string SA) ∧ w'.cell? ⟨w.heap.size, j, none⟩ = some (.string SB)) (first | exact ⟨si, sj⟩ | exact HSZ.out _ | exact HSI.out | exact HSJ.out _ | exact HSJ.out _ _) (first
    | (go_at_call 8; (with_reducible refine Calls.mono HA1.out ?_); rintro e w1 ⟨A, cA, rfl, hl1, hb1⟩; have HB1 : Hid (Below wz.heap.size wz w1) := ⟨hb1.os, hb1.tape, hb1.output, hb1.size, hb1.block⟩; have HLI := Lib.hid hl1; have HSI : Hid (w1.cell? ⟨w.heap.size, i, none⟩ = some (.string SA) ∧ w1.cell? ⟨w.heap.size, j, none⟩ = some (.string SB)) := ⟨(HB1.out.cell (p := ⟨w.heap.size, i, none⟩) (heap_lt' HS.out)).trans si, (HB1.out.cell (p := ⟨w.heap.size, j, none⟩) (heap_lt' HS.out)).trans sj⟩; have HSJ : Hid (∀ o : Obj, (w1.alloc o).cell? ⟨w.heap.size, i, none⟩ = some (.string SA) ∧ (w1.alloc o).cell? ⟨w.heap.size, j, none⟩ = some (.string SB)) := fun o => ⟨(((Below.refl w1.heap.size w1).alloc (Nat.le_refl _) o).cell (p := ⟨w.heap.size, i, none⟩) (Nat.lt_of_lt_of_le (heap_lt' HS.out) HB1.out.size)).trans HSI.out.1, (((Below.refl w1.heap.size w1).alloc (Nat.le_refl _) o).cell (p := ⟨w.heap.size, j, none⟩) (Nat.lt_of_lt_of_le (heap_lt' HS.out) HB1.out.size)).trans HSI.out.2⟩; clear hb1 hl1 si sj HSZ HA1)
    | (go_at_call 8; refine Calls.mono (HTK2.out _) ?_; rintro e w1 ⟨A, cA, rfl, hl1, hb1⟩; have HB1 : Hid (Below wz.heap.size wz w1) := below_seq ((Below.refl wz.heap.size wz).alloc (Nat.le_refl _) (.cells #[.int .i64 0, .int .i64 0] 25)) (⟨hb1.os, hb1.tape, hb1.output, hb1.size, hb1.block⟩ : Below (wz.alloc (.cells #[.int .i64 0, .int .i64 0] 25)).heap.size (wz.alloc (.cells #[.int .i64 0, .int .i64 0] 25)) w1) (by rw [size_alloc]; omega); have hfb : w1.heap[wz.heap.size]? = some (.cells #[.int .i64 0, .int .i64 0] 25 (0, 0)) := (hb1.block _ (show wz.heap.size < (wz.alloc _).heap.size by rw [size_alloc]; omega)).trans (heap_alloc_new wz _); have HFB := Lib.hid hfb; obtain ⟨⟨fb0, fb1⟩, ⟨fz0, fz1⟩, fbl⟩ := duo hfb; clear hfb; have HLI := Lib.hid hl1; have HSI : Hid (w1.cell? ⟨w.heap.size, i, none⟩ = some (.string SA) ∧ w1.cell? ⟨w.heap.size, j, none⟩ = some (.string SB)) := ⟨(HB1.out.cell (p := ⟨w.heap.size, i, none⟩) (heap_lt' HS.out)).trans si, (HB1.out.cell (p := ⟨w.heap.size, j, none⟩) (heap_lt' HS.out)).trans sj⟩; have HSJ : Hid (∀ u v : Value, ((w1.setCell ⟨wz.heap.size, 0, none⟩ u).setCell ⟨wz.heap.size, 1, none⟩ v).cell? ⟨w.heap.size, i, none⟩ = some (.string SA) ∧ ((w1.setCell ⟨wz.heap.size, 0, none⟩ u).setCell ⟨wz.heap.size, 1, none⟩ v).cell? ⟨w.heap.size, j, none⟩ = some (.string SB)) := fun u v => (by (have hk : ((w1.setCell ⟨wz.heap.size, 0, none⟩ u).setCell ⟨wz.heap.size, 1, none⟩ v).heap[w.heap.size]? = w1.heap[w.heap.size]? := (Below.heap_setCell _ ⟨wz.heap.size, 1, none⟩ v _ (Nat.ne_of_lt hltz)).trans (Below.heap_setCell _ ⟨wz.heap.size, 0, none⟩ u _ (Nat.ne_of_lt hltz))); exact ⟨(cell_same hk _).trans HSI.out.1, (cell_same hk _).trans HSI.out.2⟩); clear hb1 hl1 si sj HSZ HA1))
  · obtain ⟨wr, hwr⟩ : ∃ wr, wr = w1.alloc (.cells #[.int .i64 0, .int .i64 0] 25) := ⟨_, rfl⟩
    rw [← hwr]
    have hb1 : Below w1.heap.size w1 wr := by rw [hwr]; exact (Below.refl _ _).alloc (Nat.le_refl _) _
    have HBR := Lib.hid (below_seq HB1.out hb1 HB1.out.size)
    have HT := Lib.hid (((toks_of (c := cA) HLI.out HF.out.2.1).below hb1).re2)
    clear hb1 HLI
    have HBR2 : Hid (Below w.heap.size w wr) := below_seq HBZ.out HBR.out HBZ.out.size
    clear hwr HSI HSJ HB1
    obtain ⟨k, num, name, ofn, dims, e0, e1, at_, b, r, d, ref, hp, hres⟩ := HF.out.2.2
    have HP := Lib.hid hp
    have HRES := Lib.hid hres
    clear hp hres
    have HOW : Hid (OpsIn wr) := by obtain ⟨gt, gfr, hg⟩ := HOP.out; exact ⟨gt, gfr, (HBR.out.block _ (heap_lt' hg)).trans hg⟩
    go_wp2_with fail
    refine (parse_any wr wr.heap.size _ ((binUs i j).map toRT) 0 0 HT.out HOW.out 60 (by decide) _ HP.out).mono ?_
    rintro e w2 ⟨xk, xn, xs, xo, xd, xp, xl, xc, xa, xb, xr, xe, xf, rfl, hi2, hb2⟩
    obtain ⟨bl, off, c, hv, hbl, n0k, n0n, n1k, n1n⟩ := hi2.two
    obtain ⟨hx1, hx2, hx3, hx4, hx5, hx6, hx7, hx8, hx9, hxA, hxB⟩ := exCells_inj hv
    subst hx1 hx2 hx3 hx4 hx5 hx7 hx8 hx9 hxA hxB
    have hs2 : xp = some ⟨bl, off, none⟩ ∧ xl = 2 ∧ xc = c := by simpa using hx6
    obtain ⟨rfl, rfl, rfl⟩ : some ⟨bl, off, none⟩ = xp ∧ 2 = xl ∧ c = xc := ⟨hs2.1.symm, hs2.2.1.symm, hs2.2.2.symm⟩
    clear hs2 hx6 hv hi2
    have HB2 := Lib.hid (below_seq HBR.out hb2 HBR.out.size)
    obtain ⟨wd, hwd⟩ : ∃ wd, wd = ((w2.alloc (.cells #[.int .i64 xk, .int .i64 xn, .string (cbs xs), .string (cbs xo), .int .i64 xd, .slice (some ⟨bl, off, none⟩) 2 c, .int .i64 xa, .int .i64 xb, .int .i64 xr, .int .i64 xe, .int .i64 xf] 39)).alloc (.cells #[.int .i64 0, .int .i64 0] 25)) := ⟨_, rfl⟩
    have hbd : Below w2.heap.size w2 wd := by rw [hwd]; exact ((Below.refl _ _).alloc (Nat.le_refl _) _).alloc (by rw [size_alloc]; omega) _
    have hE : wd.heap[w2.heap.size]? = some (.cells #[.int .i64 xk, .int .i64 xn, .string (cbs xs), .string (cbs xo), .int .i64 xd, .slice (some ⟨bl, off, none⟩) 2 c, .int .i64 xa, .int .i64 xb, .int .i64 xr, .int .i64 xe, .int .i64 xf] 39 (0, 0)) := by rw [hwd]; exact alloc_box _ (heap_alloc_new w2 _)
    have HBD := Lib.hid (below_seq HB2.out hbd HB2.out.size)
    have k0 := (hbd.cell (p := ⟨bl, off, none⟩) hbl).trans n0k
    have k1 := (hbd.cell (p := ⟨bl, off + 2, none⟩) hbl).trans n0n
    have k2 := (hbd.cell (p := ⟨bl, off + 11, none⟩) hbl).trans n1k
    have k3 := (hbd.cell (p := ⟨bl, off + 13, none⟩) hbl).trans n1n
    obtain ⟨⟨e0c, e1c, e2c, e3c, e4c, e5c, e6c, e7c, e8c, e9c, eXc⟩, -⟩ := hen hE
    have li := (HBD.out.cell (p := ⟨w.heap.size + 1 + 1, i, none⟩) (heap_lt' HL.out)).trans (cellrow HL.out i _ (lv_at i hi))
    have lj := (HBD.out.cell (p := ⟨w.heap.size + 1 + 1, j, none⟩) (heap_lt' HL.out)).trans (cellrow HL.out j _ (lv_at j hj))
    have ki := (HBD.out.cell (p := ⟨w.heap.size + 1, i, none⟩) (heap_lt' HK.out)).trans (cellrow HK.out i _ (kd_at i hi))
    have kj := (HBD.out.cell (p := ⟨w.heap.size + 1, j, none⟩) (heap_lt' HK.out)).trans (cellrow HK.out j _ (kd_at j hj))
    have HKN := Lib.hid (fun w3 (hb : Below wd.heap.size wd w3) => known_any w3 (by obtain ⟨gt, gfr, hg⟩ := HOP.out; exact ⟨gt, gfr, (hb.block _ (Nat.lt_of_lt_of_le (heap_lt' hg) HBD.out.size)).trans ((HBD.out.block _ (heap_lt' hg)).trans hg)⟩))
    have HWD : Hid (Below w.heap.size w wd) := below_seq HBZ.out HBD.out HBZ.out.size
    clear hb2 hbd hE hbl n0k n0n n1k n1n e1c e2c e3c e4c e6c e7c e8c e9c eXc HT HOW HP HBR HB2
    go_wp2_with fail
    try rw [← hwd]
    clear hwd
    unfold binRes at HRES
    by_cases hlv : lv i < lv j
    · have hdl : decide (lv i < lv j) = true := decide_eq_true hlv
      have hr := HRES.out
      rw [if_pos hlv] at hr
      simp only [Bool.and_eq_true, decide_eq_true_eq] at hr
      obtain ⟨⟨r1, r2⟩, r3⟩ := hr
      have g1 : (xk == kd i) = true := beq_iff_eq.2 r1
      have g2 : ((cbs (exName e0)).toList == [97]) = true := by rw [cbs_list, r2]; rfl
      have g3 : (exKind e1 == kd j) = true := beq_iff_eq.2 r3
      clear r1 r2 r3 HRES k0 k3 hlv
      go_quiet (fail)
      go_wp2_with fail
      have HDD : Hid (Below wd.heap.size wd ((wd.drewN nq).drew)) := (drawn_bl (Below.refl _ _) nq).drew
      go_region_held3 (fun w' => w'.cell? ⟨w2.heap.size, 0, none⟩ = some (.int .i64 xk) ∧ w'.cell? ⟨w2.heap.size, 5, none⟩ = some (.slice (some ⟨bl, off, none⟩) 2 c) ∧ w'.cell? ⟨w.heap.size + 1, i, none⟩ = some (.int .i64 (kd i)) ∧ w'.cell? ⟨w.heap.size + 1, j, none⟩ = some (.int .i64 (kd j)) ∧ w'.cell? ⟨bl, off + 2, none⟩ = some (.string (cbs (exName e0))) ∧ w'.cell? ⟨bl, off + 11, none⟩ = some (.int .i64 (exKind e1))) (first | exact ⟨e0c, e5c, ki, kj, k1, k2⟩ | exact HS4.out) (first
        | (go_at_call 10; refine Calls.mono (HKN.out _ ⟨rfl, rfl, rfl, Nat.le_refl _, fun _ _ => rfl⟩) ?_; rintro e w4 ⟨rfl, hb4⟩; have HB4 : Hid (Below wd.heap.size wd w4) := ⟨hb4.os, hb4.tape, hb4.output, hb4.size, hb4.block⟩; have HS4 := Lib.hid (hold6 HB4.out e0c e5c ki kj k1 k2); clear hb4 HKN))
      go_wp2_with fail
      go_ret
      exact ⟨rfl, below_seq HWD.out HB4.out HWD.out.size⟩
    · have hdl : decide (lv i < lv j) = false := decide_eq_false hlv
      have hr := HRES.out
      rw [if_neg hlv] at hr
      simp only [Bool.and_eq_true, decide_eq_true_eq] at hr
      obtain ⟨⟨r1, r2⟩, r3⟩ := hr
      have g1 : (xk == kd j) = true := beq_iff_eq.2 r1
      have g2 : ((cbs (exName e1)).toList == [99]) = true := by rw [cbs_list, r2]; rfl
      have g3 : (exKind e0 == kd i) = true := beq_iff_eq.2 r3
      clear r1 r2 r3 HRES k1 k2 hlv
      go_quiet (fail)
      go_wp2_with fail
      have HDD : Hid (Below wd.heap.size wd ((wd.drewN nq).drew)) := (drawn_bl (Below.refl _ _) nq).drew
      go_region_held3 (fun w' => w'.cell? ⟨w2.heap.size, 0, none⟩ = some (.int .i64 xk) ∧ w'.cell? ⟨w2.heap.size, 5, none⟩ = some (.slice (some ⟨bl, off, none⟩) 2 c) ∧ w'.cell? ⟨w.heap.size + 1, i, none⟩ = some (.int .i64 (kd i)) ∧ w'.cell? ⟨w.heap.size + 1, j, none⟩ = some (.int .i64 (kd j)) ∧ w'.cell? ⟨bl, off + 13, none⟩ = some (.string (cbs (exName e1))) ∧ w'.cell? ⟨bl, off, none⟩ = some (.int .i64 (exKind e0))) (first | exact ⟨e0c, e5c, ki, kj, k3, k0⟩ | exact HS4.out) (first
        | (go_at_call 10; refine Calls.mono (HKN.out _ ⟨rfl, rfl, rfl, Nat.le_refl _, fun _ _ => rfl⟩) ?_; rintro e w4 ⟨rfl, hb4⟩; have HB4 : Hid (Below wd.heap.size wd w4) := ⟨hb4.os, hb4.tape, hb4.output, hb4.size, hb4.block⟩; have HS4 := Lib.hid (hold6 HB4.out e0c e5c ki kj k3 k0); clear hb4 HKN))
      go_wp2_with fail
      go_ret
      exact ⟨rfl, below_seq HWD.out HB4.out HWD.out.size⟩
  · obtain ⟨wr, hwr⟩ : ∃ wr, wr = (w1.setCell ⟨wz.heap.size, 0, none⟩ (.int .i64 0)).setCell ⟨wz.heap.size, 1, none⟩ (.int .i64 0) := ⟨_, rfl⟩
    rw [← hwr]
    have hsame : ∀ k : Nat, wr.heap[k]? = w1.heap[k]? := by rw [hwr]; exact same_set2 HFB.out
    have HBR : Hid (Below wz.heap.size wz wr) := by rw [hwr]; exact bl_put (bl_put HB1.out (Nat.le_refl _)) (Nat.le_refl _)
    have HT := Lib.hid ((toks_of (c := cA) HLI.out HF.out.2.1).same hsame).re2
    clear hsame HLI HFB fb0 fb1 fz0 fz1 fbl
    have HBR2 : Hid (Below w.heap.size w wr) := below_seq HBZ.out HBR.out HBZ.out.size
    clear hwr HSI HSJ HB1
    obtain ⟨k, num, name, ofn, dims, e0, e1, at_, b, r, d, ref, hp, hres⟩ := HF.out.2.2
    have HP := Lib.hid hp
    have HRES := Lib.hid hres
    clear hp hres
    have HOW : Hid (OpsIn wr) := by obtain ⟨gt, gfr, hg⟩ := HOP.out; exact ⟨gt, gfr, (HBR.out.block _ (heap_lt' hg)).trans hg⟩
    go_wp2_with fail
    refine (parse_any wr wr.heap.size _ ((binUs i j).map toRT) 0 0 HT.out HOW.out 60 (by decide) _ HP.out).mono ?_
    rintro e w2 ⟨xk, xn, xs, xo, xd, xp, xl, xc, xa, xb, xr, xe, xf, rfl, hi2, hb2⟩
    obtain ⟨bl, off, c, hv, hbl, n0k, n0n, n1k, n1n⟩ := hi2.two
    obtain ⟨hx1, hx2, hx3, hx4, hx5, hx6, hx7, hx8, hx9, hxA, hxB⟩ := exCells_inj hv
    subst hx1 hx2 hx3 hx4 hx5 hx7 hx8 hx9 hxA hxB
    have hs2 : xp = some ⟨bl, off, none⟩ ∧ xl = 2 ∧ xc = c := by simpa using hx6
    obtain ⟨rfl, rfl, rfl⟩ : some ⟨bl, off, none⟩ = xp ∧ 2 = xl ∧ c = xc := ⟨hs2.1.symm, hs2.2.1.symm, hs2.2.2.symm⟩
    clear hs2 hx6 hv hi2
    have HB2 := Lib.hid (below_seq HBR.out hb2 HBR.out.size)
    obtain ⟨wd, hwd⟩ : ∃ wd, wd = ((w2.alloc (.cells #[.int .i64 xk, .int .i64 xn, .string (cbs xs), .string (cbs xo), .int .i64 xd, .slice (some ⟨bl, off, none⟩) 2 c, .int .i64 xa, .int .i64 xb, .int .i64 xr, .int .i64 xe, .int .i64 xf] 39)).alloc (.cells #[.int .i64 0, .int .i64 0] 25)) := ⟨_, rfl⟩
    have hbd : Below w2.heap.size w2 wd := by rw [hwd]; exact ((Below.refl _ _).alloc (Nat.le_refl _) _).alloc (by rw [size_alloc]; omega) _
    have hE : wd.heap[w2.heap.size]? = some (.cells #[.int .i64 xk, .int .i64 xn, .string (cbs xs), .string (cbs xo), .int .i64 xd, .slice (some ⟨bl, off, none⟩) 2 c, .int .i64 xa, .int .i64 xb, .int .i64 xr, .int .i64 xe, .int .i64 xf] 39 (0, 0)) := by rw [hwd]; exact alloc_box _ (heap_alloc_new w2 _)
    have HBD := Lib.hid (below_seq HB2.out hbd HB2.out.size)
    have k0 := (hbd.cell (p := ⟨bl, off, none⟩) hbl).trans n0k
    have k1 := (hbd.cell (p := ⟨bl, off + 2, none⟩) hbl).trans n0n
    have k2 := (hbd.cell (p := ⟨bl, off + 11, none⟩) hbl).trans n1k
    have k3 := (hbd.cell (p := ⟨bl, off + 13, none⟩) hbl).trans n1n
    obtain ⟨⟨e0c, e1c, e2c, e3c, e4c, e5c, e6c, e7c, e8c, e9c, eXc⟩, -⟩ := hen hE
    have li := (HBD.out.cell (p := ⟨w.heap.size + 1 + 1, i, none⟩) (heap_lt' HL.out)).trans (cellrow HL.out i _ (lv_at i hi))
    have lj := (HBD.out.cell (p := ⟨w.heap.size + 1 + 1, j, none⟩) (heap_lt' HL.out)).trans (cellrow HL.out j _ (lv_at j hj))
    have ki := (HBD.out.cell (p := ⟨w.heap.size + 1, i, none⟩) (heap_lt' HK.out)).trans (cellrow HK.out i _ (kd_at i hi))
    have kj := (HBD.out.cell (p := ⟨w.heap.size + 1, j, none⟩) (heap_lt' HK.out)).trans (cellrow HK.out j _ (kd_at j hj))
    have HKN := Lib.hid (fun w3 (hb : Below wd.heap.size wd w3) => known_any w3 (by obtain ⟨gt, gfr, hg⟩ := HOP.out; exact ⟨gt, gfr, (hb.block _ (Nat.lt_of_lt_of_le (heap_lt' hg) HBD.out.size)).trans ((HBD.out.block _ (heap_lt' hg)).trans hg)⟩))
    have HWD : Hid (Below w.heap.size w wd) := below_seq HBZ.out HBD.out HBZ.out.size
    clear hb2 hbd hE hbl n0k n0n n1k n1n e1c e2c e3c e4c e6c e7c e8c e9c eXc HT HOW HP HBR HB2
    go_wp2_with fail
    try rw [← hwd]
    clear hwd
    unfold binRes at HRES
    by_cases hlv : lv i < lv j
    · have hdl : decide (lv i < lv j) = true := decide_eq_true hlv
      have hr := HRES.out
      rw [if_pos hlv] at hr
      simp only [Bool.and_eq_true, decide_eq_true_eq] at hr
      obtain ⟨⟨r1, r2⟩, r3⟩ := hr
      have g1 : (xk == kd i) = true := beq_iff_eq.2 r1
      have g2 : ((cbs (exName e0)).toList == [97]) = true := by rw [cbs_list, r2]; rfl
      have g3 : (exKind e1 == kd j) = true := beq_iff_eq.2 r3
      clear r1 r2 r3 HRES k0 k3 hlv
      go_quiet (fail)
      go_wp2_with fail
      have HDD : Hid (Below wd.heap.size wd ((wd.drewN nq).drew)) := (drawn_bl (Below.refl _ _) nq).drew
      go_region_held3 (fun w' => w'.cell? ⟨w2.heap.size, 0, none⟩ = some (.int .i64 xk) ∧ w'.cell? ⟨w2.heap.size, 5, none⟩ = some (.slice (some ⟨bl, off, none⟩) 2 c) ∧ w'.cell? ⟨w.heap.size + 1, i, none⟩ = some (.int .i64 (kd i)) ∧ w'.cell? ⟨w.heap.size + 1, j, none⟩ = some (.int .i64 (kd j)) ∧ w'.cell? ⟨bl, off + 2, none⟩ = some (.string (cbs (exName e0))) ∧ w'.cell? ⟨bl, off + 11, none⟩ = some (.int .i64 (exKind e1))) (first | exact ⟨e0c, e5c, ki, kj, k1, k2⟩ | exact HS4.out) (first
        | (go_at_call 10; refine Calls.mono (HKN.out _ ⟨rfl, rfl, rfl, Nat.le_refl _, fun _ _ => rfl⟩) ?_; rintro e w4 ⟨rfl, hb4⟩; have HB4 : Hid (Below wd.heap.size wd w4) := ⟨hb4.os, hb4.tape, hb4.output, hb4.size, hb4.block⟩; have HS4 := Lib.hid (hold6 HB4.out e0c e5c ki kj k1 k2); clear hb4 HKN))
      go_wp2_with fail
      go_ret
      exact ⟨rfl, below_seq HWD.out HB4.out HWD.out.size⟩
    · have hdl : decide (lv i < lv j) = false := decide_eq_false hlv
      have hr := HRES.out
      rw [if_neg hlv] at hr
      simp only [Bool.and_eq_true, decide_eq_true_eq] at hr
      obtain ⟨⟨r1, r2⟩, r3⟩ := hr
      have g1 : (xk == kd j) = true := beq_iff_eq.2 r1
      have g2 : ((cbs (exName e1)).toList == [99]) = true := by rw [cbs_list, r2]; rfl
      have g3 : (exKind e0 == kd i) = true := beq_iff_eq.2 r3
      clear r1 r2 r3 HRES k1 k2 hlv
      go_quiet (fail)
      go_wp2_with fail
      have HDD : Hid (Below wd.heap.size wd ((wd.drewN nq).drew)) := (drawn_bl (Below.refl _ _) nq).drew
      go_region_held3 (fun w' => w'.cell? ⟨w2.heap.size, 0, none⟩ = some (.int .i64 xk) ∧ w'.cell? ⟨w2.heap.size, 5, none⟩ = some (.slice (some ⟨bl, off, none⟩) 2 c) ∧ w'.cell? ⟨w.heap.size + 1, i, none⟩ = some (.int .i64 (kd i)) ∧ w'.cell? ⟨w.heap.size + 1, j, none⟩ = some (.int .i64 (kd j)) ∧ w'.cell? ⟨bl, off + 13, none⟩ = some (.string (cbs (exName e1))) ∧ w'.cell? ⟨bl, off, none⟩ = some (.int .i64 (exKind e0))) (first | exact ⟨e0c, e5c, ki, kj, k3, k0⟩ | exact HS4.out) (first
        | (go_at_call 10; refine Calls.mono (HKN.out _ ⟨rfl, rfl, rfl, Nat.le_refl _, fun _ _ => rfl⟩) ?_; rintro e w4 ⟨rfl, hb4⟩; have HB4 : Hid (Below wd.heap.size wd w4) := ⟨hb4.os, hb4.tape, hb4.output, hb4.size, hb4.block⟩; have HS4 := Lib.hid (hold6 HB4.out e0c e5c ki kj k3 k0); clear hb4 HKN))
      go_wp2_with fail
      go_ret
      exact ⟨rfl, below_seq HWD.out HB4.out HWD.out.size⟩
end Go.Proofs.YtnadaedibicaaaaDoor
