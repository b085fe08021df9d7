/-
  An argument that reads as a slice of tokens is one, in memory.
-/
import Derived.SizedLaws
import Derived.Test.YtnadaedibicaaaaDoorKo
import Derived.Test.YtnadaedibicaaaaDoorTx
namespace Go.Proofs.YtnadaedibicaaaaDoor
open Go.RowKit Go.ChangeShapes Go.WideShapes Go.ChangeAt Go.ChangeMaps
open Px (RT tokAt)
open Pe

theorem addr_row4 (bl off i j : Nat) : ((⟨bl, off, none⟩ : Addr).add (i * 4)).add j = ⟨bl, off + i * 4 + j, none⟩ := by
  rw [Go.Deep.add_add, Addr.add]
  split
  · rename_i h
    rw [show off + i * 4 + j = off by omega]
  · rw [Nat.add_assoc]
theorem cells_tok : Tryd.prog.cellsOf 51 = 4 := by kernel_rfl
theorem four_list {cs : List Value} (h : cs.length = 4) : ∃ a b c d, cs = [a, b, c, d] := by
  match cs, h with
  | [a, b, c, d], _ => exact ⟨a, b, c, d, rfl⟩
theorem weights_all {H : Type} {P : Program} {e : TypeId} {d : DataW H} {n : Nat} (hn : n ∈ d.weights P e) : ∀ {ds : List (DataW H)} {i : Nat}, ds[i]? = some d → n ∈ DataW.weightsAll P e ds
  | [], _, h => by simp at h
  | d0 :: ds, 0, h => by
    simp only [List.getElem?_cons_zero, Option.some.injEq] at h
    subst h
    simp only [DataW.weightsAll, List.mem_append]
    exact .inl hn
  | d0 :: ds, i + 1, h => by
    simp only [List.getElem?_cons_succ] at h
    simp only [DataW.weightsAll, List.mem_append]
    exact .inr (weights_all hn h)

section
variable {H : Type} {enc : TypeId × Value → H} {w : World} {sp : Nat → Bool} {held : Bool}
theorem tok_of_trod {n : Nat} {cs : List Value} {x : DataW H × List MemPlace} (h : DataW.trod enc Tryd.prog w 0 sp held n 51 cs = some x) :
    ∃ t : RT, cs = [.int .i64 t.kind, .string (cbs t.text), .int .i64 t.num, .int .i64 t.at_] ∧ t.text.length ∈ x.1.weights Tryd.prog 51 := by
  obtain ⟨z1, z2, -, -, -, -⟩ := cells_one
  obtain ⟨xs, m, rfl, rfl, hl, hxs, hf⟩ := DataW.trod_struct Tryd.underlying51 h
  rw [cells_tok] at hl
  obtain ⟨c0, c1, c2, c3, rfl⟩ := four_list hl
  have hx : ∀ i, i < 4 → ∃ y, xs[i]? = some y := fun i hi => ⟨xs[i]'(by rw [hxs]; exact hi), List.getElem?_eq_getElem _⟩
  obtain ⟨y0, hy0⟩ := hx 0 (by decide)
  obtain ⟨y1, hy1⟩ := hx 1 (by decide)
  obtain ⟨y2, hy2⟩ := hx 2 (by decide)
  obtain ⟨y3, hy3⟩ := hx 3 (by decide)
  have f0 : DataW.trod enc Tryd.prog w 0 sp held m 3 [c0] = some y0 := by
    have h0 := hf 0 _ rfl
    have h1 : DataW.trod enc Tryd.prog w 0 sp held m 3 ((List.drop 0 [c0, c1, c2, c3]).take (Tryd.prog.cellsOf 3)) = some y0 := h0.trans hy0
    rw [z1] at h1
    exact h1
  have f1 : DataW.trod enc Tryd.prog w 0 sp held m 9 [c1] = some y1 := by
    have h0 := hf 1 _ rfl
    have h1 : DataW.trod enc Tryd.prog w 0 sp held m 9 ((List.drop 1 [c0, c1, c2, c3]).take (Tryd.prog.cellsOf 9)) = some y1 := h0.trans hy1
    rw [z2] at h1
    exact h1
  have f2 : DataW.trod enc Tryd.prog w 0 sp held m 3 [c2] = some y2 := by
    have h0 := hf 2 _ rfl
    have h1 : DataW.trod enc Tryd.prog w 0 sp held m 3 ((List.drop 2 [c0, c1, c2, c3]).take (Tryd.prog.cellsOf 3)) = some y2 := h0.trans hy2
    rw [z1] at h1
    exact h1
  have f3 : DataW.trod enc Tryd.prog w 0 sp held m 3 [c3] = some y3 := by
    have h0 := hf 3 _ rfl
    have h1 : DataW.trod enc Tryd.prog w 0 sp held m 3 ((List.drop 3 [c0, c1, c2, c3]).take (Tryd.prog.cellsOf 3)) = some y3 := h0.trans hy3
    rw [z1] at h1
    exact h1
  obtain ⟨a0, rfl⟩ := int_cell f0
  obtain ⟨s, hs, hv, -⟩ := DataW.trod_string Tryd.underlying9 f1
  obtain rfl := (List.cons.inj hs).1
  obtain ⟨a2, rfl⟩ := int_cell f2
  obtain ⟨a3, rfl⟩ := int_cell f3
  refine ⟨⟨a0, s.data.toList, a2, a3⟩, by rw [cbs_of], ?_⟩
  have hy : (xs.map (·.1))[1]? = some (DataW.lit (.string s.data.toList) : DataW H) := by
    rw [List.getElem?_map, hy1, hv]; rfl
  simp only [DataW.weights, Tryd.underlying51]
  exact DataW.weights_mem_each (j := 1) (t := 9) rfl hy _ (by simp [DataW.weights])
theorem toks_row {bl : Nat} {B : Nat} : ∀ (len off : Nat), (∀ i, i < len → ∃ t : RT, t.text.length ≤ B ∧ w.cell? ⟨bl, off + i * 4, none⟩ = some (.int .i64 t.kind) ∧ w.cell? ⟨bl, off + i * 4 + 1, none⟩ = some (.string (cbs t.text)) ∧ w.cell? ⟨bl, off + i * 4 + 2, none⟩ = some (.int .i64 t.num) ∧ w.cell? ⟨bl, off + i * 4 + 3, none⟩ = some (.int .i64 t.at_)) →
    ∃ ts : List RT, ts.length = len ∧ (∀ t ∈ ts, t.text.length ≤ B) ∧ ∀ j t, ts[j]? = some t → w.cell? ⟨bl, off + j * 4, none⟩ = some (.int .i64 t.kind) ∧ w.cell? ⟨bl, off + j * 4 + 1, none⟩ = some (.string (cbs t.text)) ∧ w.cell? ⟨bl, off + j * 4 + 2, none⟩ = some (.int .i64 t.num) ∧ w.cell? ⟨bl, off + j * 4 + 3, none⟩ = some (.int .i64 t.at_)
  | 0, off, _ => ⟨[], rfl, fun t ht => by simp at ht, fun j t ht => by simp at ht⟩
  | len + 1, off, h => by
    obtain ⟨t, htl, hc⟩ := h 0 (Nat.succ_pos _)
    obtain ⟨ts, hl, hts, hcs⟩ := toks_row len (off + 4) fun i hlt => by
      have := h (i + 1) (Nat.succ_lt_succ hlt)
      rw [show off + (i + 1) * 4 = off + 4 + i * 4 by omega] at this
      exact this
    refine ⟨t :: ts, by simp [hl], fun u hu => ?_, fun j u hj => ?_⟩
    · rcases List.mem_cons.1 hu with rfl | hu
      · exact htl
      · exact hts u hu
    · cases j with
      | zero =>
        simp only [List.getElem?_cons_zero, Option.some.injEq] at hj
        subst hj
        exact hc
      | succ j =>
        simp only [List.getElem?_cons_succ] at hj
        have := hcs j u hj
        rw [show off + 4 + j * 4 = off + (j + 1) * 4 by omega] at this
        exact this
theorem slice_val {P : Program} {W : World} {t e : TypeId} {v : Value} {r : Reach} {b0 : Nat} (ht : P.underlying t = some (.slice e)) (hv : Value.okWide P W r b0 t v) : ∃ p n c, v = .slice p n c := by
  simp only [Value.okWide, Cell.okWide, ht] at hv
  cases v <;> first | exact ⟨_, _, _, rfl⟩ | (exfalso; simp [Cell.ok, ht] at hv; done)
theorem toks_of_trod {p : Option Addr} {n c : Nat} {d : DataW H} {ps : List MemPlace} (h : DataW.Trod enc Tryd.prog w 0 sp held 22 (.slice p n c) d ps) (hz : ∀ n ∈ d.weights Tryd.prog 22, n ≤ reachBytes) : ∃ ts, Toks w w.heap.size (.slice p n c) ts := by
  obtain ⟨fuel, h⟩ := h
  have hB : reachBytes ≤ 281474976710656 := by decide
  rcases DataW.trod_slice Tryd.underlying22 h with ⟨h0, -⟩ | ⟨a, len, cap, elems, rest, k, rfl, h0, hx, -, -, -, hel, hat, -, -⟩
  · simp only [Value.cells, List.cons.injEq, Value.slice.injEq, and_true] at h0
    obtain ⟨rfl, rfl, rfl⟩ := h0
    exact ⟨[], ⟨⟨none, 0, 0, rfl, rfl, .inl rfl⟩, fun t ht => by simp at ht⟩⟩
  · simp only [Value.cells, List.cons.injEq, Value.slice.injEq, and_true] at h0
    obtain ⟨h1, h2, h3⟩ := h0
    obtain rfl := h1.symm
    obtain rfl := h2.symm
    obtain rfl := h3.symm
    rw [cells_tok] at hat
    obtain rfl := congrArg Prod.fst hx
    by_cases hz0 : len = 0
    · subst hz0
      exact ⟨[], ⟨⟨some a, 0, cap, rfl, rfl, .inl rfl⟩, fun t ht => by simp at ht⟩⟩
    · obtain ⟨bl, off, spot⟩ := a
      have hall : ∀ i, i < len → ∃ t : RT, t.text.length ≤ 281474976710656 ∧ ∀ j, j < 4 → w.cell? (((⟨bl, off, spot⟩ : Addr).add (i * 4)).add j) = [Value.int .i64 t.kind, .string (cbs t.text), .int .i64 t.num, .int .i64 t.at_][j]? := by
        intro i hi
        have h1 := hat i hi
        have hei : elems[i]? = some (elems[i]'(by rw [hel]; exact hi)) := List.getElem?_eq_getElem _
        rw [hei, Option.bind_eq_some_iff] at h1
        obtain ⟨cs, hcs, ht⟩ := h1
        obtain ⟨t, rfl, hw⟩ := tok_of_trod ht
        refine ⟨t, ?_, (World.cells?_some hcs).2.2⟩
        refine Nat.le_trans (hz _ ?_) hB
        simp only [DataW.weights, Tryd.underlying22]
        refine List.mem_cons_of_mem _ (List.mem_append.2 (.inl (weights_all (i := i) hw ?_)))
        rw [List.getElem?_map, hei]; rfl
      obtain ⟨t0, -, hc0⟩ := hall 0 (Nat.pos_of_ne_zero hz0)
      have hcell : w.cell? (((⟨bl, off, spot⟩ : Addr).add (0 * 4)).add 0) = some (.int .i64 t0.kind) := hc0 0 (by decide)
      have hspot : spot = none := by simpa [Addr.add] using World.cell?_spot hcell
      subst hspot
      have hbl : bl < w.heap.size := by
        rcases Nat.lt_or_ge bl w.heap.size with h1 | h1
        · exact h1
        · exfalso
          have h2 : w.heap[bl]? = none := Array.getElem?_eq_none h1
          simp [World.cell?, Addr.add, h2] at hcell
      obtain ⟨ts, hl, hsh, hcs⟩ := toks_row (w := w) (bl := bl) (B := 281474976710656) len off fun i hi => by
        obtain ⟨t, htl, hc⟩ := hall i hi
        have c0 := hc 0 (by decide)
        have c1 := hc 1 (by decide)
        have c2 := hc 2 (by decide)
        have c3 := hc 3 (by decide)
        rw [addr_row4] at c0 c1 c2 c3
        exact ⟨t, htl, c0, c1, c2, c3⟩
      exact ⟨ts, ⟨⟨some ⟨bl, off, none⟩, len, cap, rfl, hl, .inr ⟨bl, off, rfl, hbl, Nat.ne_of_lt hbl, hcs⟩⟩, hsh⟩⟩
end
end Go.Proofs.YtnadaedibicaaaaDoor
