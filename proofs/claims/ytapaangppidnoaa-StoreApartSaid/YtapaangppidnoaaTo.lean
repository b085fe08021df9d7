/-
  Arguments that are slices: their elements in memory, one behind the other.
-/
import Derived.SizedLaws
import Derived.ChangeArms
import Derived.ChangeSame
import Derived.Deep.Slices
import Derived.Deep.Fields
import Derived.OpenShut
import Derived.WalkKit
import Derived.Test.YtapaangppidnoaaChecked
namespace Go.Proofs.Ytapaangppidnoaa
open Go.RowKit Go.ChangeShapes Go.WideShapes

/-- Elements in memory, one behind the other, each of n cells that read as something of a kind. -/
def RowAt {α : Type} (I : World → α → List Value → Prop) (n : Nat) (w : World) (q : Option Addr) (l : List α) : Prop :=
  l = [] ∨ ∃ bl off, q = some ⟨bl, off, none⟩ ∧ bl < w.heap.size ∧ ∀ (i : Nat) x, l[i]? = some x → ∃ vs, I w x vs ∧ ∀ (j : Nat) v, j < n → vs[j]? = some v → w.cell? ⟨bl, off + i * n + j, none⟩ = some v
theorem slice_cellsJ {P : Program} {W : World} {t e : TypeId} {v : Value} {r : Reach} {b0 : Nat} (ht : P.underlying t = some (.slice e)) (hv : Value.okWide P W r b0 t v) : v.cells.toList = [v] := by
  simp only [Value.okWide, Cell.okWide, ht] at hv
  cases v <;> first | rfl | (exfalso; simp [Cell.ok, ht] at hv; done)
theorem weights_in {H : Type} {P : Program} {e : TypeId} {d : DataW H} {n : Nat} (hn : n ∈ d.weights P e) : ∀ {ds : List (DataW H)} {i : Nat}, ds[i]? = some d → n ∈ DataW.weightsAll P e ds
  | [], _, h => by simp at h
  | d0 :: ds, 0, h => by
    simp only [List.getElem?_cons_zero, Option.some.injEq] at h
    subst h
    simp only [DataW.weightsAll, List.mem_append]
    exact .inl hn
  | d0 :: ds, i + 1, h => by
    simp only [List.getElem?_cons_succ] at h
    simp only [DataW.weightsAll, List.mem_append]
    exact .inr (weights_in hn h)
theorem list_of {α : Type} {P : Nat → α → Prop} : ∀ n : Nat, (∀ i, i < n → ∃ a, P i a) → ∃ l : List α, l.length = n ∧ ∀ i a, l[i]? = some a → P i a
  | 0, _ => ⟨[], rfl, fun i a h => by simp at h⟩
  | n + 1, h => by
    obtain ⟨l, hl, hp⟩ := list_of n fun i hi => h i (Nat.lt_succ_of_lt hi)
    obtain ⟨a, ha⟩ := h n (Nat.lt_succ_self n)
    refine ⟨l ++ [a], by simp [hl], fun i x hx => ?_⟩
    by_cases hi : i < l.length
    · rw [List.getElem?_append_left hi] at hx
      exact hp i x hx
    · rw [List.getElem?_append_right (by omega)] at hx
      have h0 : i - l.length = 0 := by
        rcases Nat.eq_zero_or_pos (i - l.length) with h1 | h1
        · exact h1
        · rw [List.getElem?_eq_none (by show [a].length ≤ i - l.length; exact h1)] at hx
          cases hx
      rw [h0] at hx
      obtain rfl : a = x := by simpa using hx
      obtain rfl : i = n := by omega
      exact ha
theorem addr_rowJ (bl off i j k : Nat) : ((⟨bl, off, none⟩ : Addr).add (i * k)).add j = ⟨bl, off + i * k + j, none⟩ := by
  rw [Go.Deep.add_add, Addr.add]
  split
  · rename_i h
    rw [show off + i * k + j = off by omega]
  · rw [Nat.add_assoc]

section
variable {H : Type} {enc : TypeId × Value → H} {w : World} {sp : Nat → Bool} {held : Bool}
/-- A slice whose elements each read as something of this kind. -/
theorem lat_of_trod {α : Type} {I : World → α → List Value → Prop} {G : α → Prop} {T E : TypeId} {k : Nat} (hT : Try.prog.underlying T = some (.slice E)) (hc : Try.prog.cellsOf E = k) (hk : 0 < k)
    (hE : ∀ (m : Nat) (cs : List Value) (x : DataW H × List MemPlace), DataW.trod enc Try.prog w 0 sp held m E cs = some x → (∀ n ∈ x.1.weights Try.prog E, n ≤ reachBytes) → ∃ a : α, I w a cs ∧ G a ∧ cs.length = k)
    {m : Nat} {v : Value} {x : DataW H × List MemPlace} (h : DataW.trod enc Try.prog w 0 sp held m T [v] = some x) (hz : ∀ n ∈ x.1.weights Try.prog T, n ≤ reachBytes) :
    ∃ (p : Option Addr) (c : Nat) (l : List α), v = .slice p l.length c ∧ RowAt I k w p l ∧ (∀ a ∈ l, G a) ∧ l.length ≤ c ∧ l.length * Try.prog.bytesOf E ≤ reachBytes := by
  rcases DataW.trod_slice hT h with ⟨h0, -⟩ | ⟨a, len, cap, elems, rest, m', -, h0, rfl, -, hcp, -, hel, hat, -, -⟩
  · obtain rfl := (List.cons.inj h0).1
    exact ⟨none, 0, [], rfl, .inl rfl, (fun a ha => by cases ha), Nat.le_refl _, by simp⟩
  · obtain rfl := (List.cons.inj h0).1
    rw [hc] at hat
    have hby : len * Try.prog.bytesOf E ≤ reachBytes := by
      refine Nat.le_trans ?_ (hz ((elems.length + rest.length) * Try.prog.bytesOf E) ?_)
      · exact Nat.mul_le_mul_right _ (by omega)
      · simp [DataW.weights, hT]
    by_cases hl0 : len = 0
    · subst hl0
      exact ⟨some a, cap, [], rfl, .inl rfl, (fun a ha => by cases ha), Nat.zero_le _, by simp⟩
    · obtain ⟨bl, off, spot⟩ := a
      have hall : ∀ i, i < len → ∃ a : α, ∃ cs, I w a cs ∧ G a ∧ cs.length = k ∧ ∀ j, j < k → w.cell? (((⟨bl, off, spot⟩ : Addr).add (i * k)).add j) = cs[j]? := by
        intro i hi
        have h1 := hat i hi
        have hei : elems[i]? = some (elems[i]'(by rw [hel]; exact hi)) := List.getElem?_eq_getElem _
        rw [hei, Option.bind_eq_some_iff] at h1
        obtain ⟨cs, hcs, ht⟩ := h1
        obtain ⟨a, ha, hg, hlen⟩ := hE _ _ _ ht (by
          intro n hn
          refine hz n ?_
          simp only [DataW.weights, hT]
          refine List.mem_cons_of_mem _ (List.mem_append.2 (.inl (weights_in (i := i) hn ?_)))
          rw [List.getElem?_map, hei]
          rfl)
        exact ⟨a, cs, ha, hg, hlen, (World.cells?_some hcs).2.2⟩
      obtain ⟨a0, cs0, -, -, hl, hc0⟩ := hall 0 (Nat.pos_of_ne_zero hl0)
      have hcell : w.cell? (((⟨bl, off, spot⟩ : Addr).add (0 * k)).add 0) = some (cs0[0]'(by rw [hl]; exact hk)) := by rw [hc0 0 hk]; exact List.getElem?_eq_getElem _
      have hspot : spot = none := by simpa [Addr.add] using World.cell?_spot hcell
      subst hspot
      have hbl : bl < w.heap.size := by
        rcases Nat.lt_or_ge bl w.heap.size with h1 | h1
        · exact h1
        · exfalso
          have h2 : w.heap[bl]? = none := Array.getElem?_eq_none h1
          simp [World.cell?, Addr.add, h2] at hcell
      obtain ⟨l, hll, hp⟩ := list_of len hall
      subst hll
      refine ⟨some ⟨bl, off, none⟩, cap, l, rfl, .inr ⟨bl, off, rfl, hbl, fun i x hx => ?_⟩, (fun a ha => ?_), hcp, hby⟩
      · obtain ⟨cs, hi, -, -, hc⟩ := hp i x hx
        exact ⟨cs, hi, fun j v hj hv => by rw [← hv, ← hc j hj, addr_rowJ]⟩
      · obtain ⟨i, hi, rfl⟩ := List.mem_iff_getElem.1 ha
        obtain ⟨cs, -, hg, -⟩ := hp i _ (List.getElem?_eq_getElem hi)
        exact hg
/-- An int of 64 bits. -/
abbrev I64 (n : Int) : Prop := -9223372036854775808 ≤ n ∧ n ≤ 9223372036854775807
/-- An integer in memory. -/
def NumIs (_ : World) (x : Int) (vs : List Value) : Prop := vs = [.int .i64 x]
theorem num_of_trod {m : Nat} {cs : List Value} {x : DataW H × List MemPlace} (hx : DataW.trod enc Try.prog w 0 sp held m 3 cs = some x) : ∃ k : Int, cs = [.int .i64 k] ∧ I64 k := by
  obtain ⟨k, hk, -, hw⟩ := DataW.trod_int Try.underlying3 hx
  exact ⟨k, hk, bounds_i64 hw⟩
/-- A slice of integers. -/
theorem ints_of_trod {v : Value} {d : DataW H} {ps : List MemPlace} (h : DataW.Trod enc Try.prog w 0 sp held 39 v d ps) (hz : ∀ n ∈ d.weights Try.prog 39, n ≤ reachBytes) (hv : v.cells.toList = [v]) :
    ∃ (p : Option Addr) (c : Nat) (l : List Int), v = .slice p l.length c ∧ RowAt NumIs 1 w p l ∧ (∀ n ∈ l, I64 n) ∧ l.length ≤ reachBytes := by
  obtain ⟨fuel, h⟩ := h
  rw [hv] at h
  obtain ⟨p, c, l, hl, hp, hg, -, hb⟩ := lat_of_trod (I := NumIs) (G := I64) Try.underlying39 (show Try.prog.cellsOf 3 = 1 by kernel_rfl) (by decide) (fun m cs x hx _ => by
    obtain ⟨k, hk, hw⟩ := num_of_trod hx
    exact ⟨k, hk, hw, by rw [hk]; rfl⟩) h hz
  rw [show Try.prog.bytesOf 3 = 8 by kernel_rfl] at hb
  exact ⟨p, c, l, hl, hp, hg, by omega⟩
/-- Structs of integers: as many as the struct has fields. -/
def NumsIs (_ : World) (x : List Int) (vs : List Value) : Prop := vs = x.map (Value.int .i64)
theorem nums_of_trod {t : TypeId} {fs : Array Field} (hs : Try.prog.underlying t = some (.struct fs)) (hone : Go.Deep.oneCellFields Try.prog fs = true) (hall : fs.all (fun f => f.type == 3) = true) (hC : Try.prog.cellsOf t = fs.size)
    {m : Nat} {cs : List Value} {x : DataW H × List MemPlace} (h : DataW.trod enc Try.prog w 0 sp held m t cs = some x) : ∃ l : List Int, l.length = fs.size ∧ cs = l.map (Value.int .i64) ∧ ∀ n ∈ l, I64 n := by
  obtain ⟨ys, n', -, -, hlen, hyl, hf⟩ := DataW.trod_struct hs h
  rw [hC] at hlen
  have hcell : ∀ j, j < fs.size → ∃ k : Int, I64 k ∧ cs[j]? = some (.int .i64 k) := by
    intro j hj
    have hjf : fs[j]? = some fs[j] := Array.getElem?_eq_getElem hj
    obtain ⟨ho, hk⟩ := Go.Deep.hone_of hone j fs[j] hjf
    have h1 := hf j fs[j] hjf
    have hty : fs[j].type = 3 := by
      have := Array.all_eq_true.1 hall j hj
      simpa using this
    rw [ho, hk, List.drop_eq_getElem_cons (by omega)] at h1
    have hys : ys[j]? = some (ys[j]'(by omega)) := List.getElem?_eq_getElem (by omega)
    rw [hys] at h1
    rw [hty] at h1
    obtain ⟨k, hk, hw⟩ := num_of_trod h1
    refine ⟨k, hw, ?_⟩
    rw [List.getElem?_eq_getElem (by omega)]
    simp only [List.take_succ_cons, List.take_zero] at hk
    exact congrArg some (List.cons.inj hk).1
  obtain ⟨l, hl, hp⟩ := list_of fs.size hcell
  refine ⟨l, hl, ?_, fun n hn => ?_⟩
  · refine List.ext_getElem? fun j => ?_
    rw [List.getElem?_map]
    by_cases hj : j < fs.size
    · have hlj : l[j]? = some (l[j]'(by omega)) := List.getElem?_eq_getElem (by omega)
      rw [hlj, (hp j _ hlj).2]
      rfl
    · rw [List.getElem?_eq_none (by omega), List.getElem?_eq_none (by omega)]
      rfl
  · obtain ⟨j, hj⟩ := List.mem_iff_getElem?.1 hn
    exact (hp j n hj).1
/-- A slice of structs of integers. -/
theorem numss_of_trod {T E : TypeId} {fs : Array Field} (hT : Try.prog.underlying T = some (.slice E)) (hs : Try.prog.underlying E = some (.struct fs)) (hone : Go.Deep.oneCellFields Try.prog fs = true) (hall : fs.all (fun f => f.type == 3) = true) (hC : Try.prog.cellsOf E = fs.size) (h0 : 0 < fs.size)
    {v : Value} {d : DataW H} {ps : List MemPlace} (h : DataW.Trod enc Try.prog w 0 sp held T v d ps) (hz : ∀ n ∈ d.weights Try.prog T, n ≤ reachBytes) (hv : v.cells.toList = [v]) :
    ∃ (p : Option Addr) (c : Nat) (l : List (List Int)), v = .slice p l.length c ∧ RowAt NumsIs fs.size w p l ∧ (∀ x ∈ l, x.length = fs.size ∧ ∀ n ∈ x, I64 n) ∧ l.length * Try.prog.bytesOf E ≤ reachBytes := by
  obtain ⟨fuel, h⟩ := h
  rw [hv] at h
  obtain ⟨p, c, l, hl, hp, hg, -, hb⟩ := lat_of_trod (I := NumsIs) (G := fun x => x.length = fs.size ∧ ∀ n ∈ x, I64 n) hT hC h0 (fun m cs x hx _ => by
    obtain ⟨k, hk, hc, hw⟩ := nums_of_trod hs hone hall hC hx
    exact ⟨k, hc, ⟨hk, hw⟩, by rw [hc, List.length_map, hk]⟩) h hz
  exact ⟨p, c, l, hl, hp, hg, hb⟩
end
/-- The element itself, where its number is given. -/
theorem RowAt.num {w : World} {q : Option Addr} {l : List Int} (h : RowAt NumIs 1 w q l) {i : Nat} {x : Int} (hx : l[i]? = some x) : ∃ bl off, q = some ⟨bl, off, none⟩ ∧ bl < w.heap.size ∧ w.cell? ⟨bl, off + i, none⟩ = some (.int .i64 x) := by
  rcases h with rfl | ⟨bl, off, hq, hb, ha⟩
  · simp at hx
  · obtain ⟨vs, hvs, hc⟩ := ha i x hx
    rw [NumIs] at hvs
    subst hvs
    have := hc 0 _ (by decide) rfl
    rw [Nat.mul_one, Nat.add_zero] at this
    exact ⟨bl, off, hq, hb, this⟩
/-- A cell of an element. -/
theorem RowAt.nums {w : World} {n : Nat} {q : Option Addr} {l : List (List Int)} (h : RowAt NumsIs n w q l) {i : Nat} {x : List Int} (hx : l[i]? = some x) : ∃ bl off, q = some ⟨bl, off, none⟩ ∧ bl < w.heap.size ∧ ∀ (j : Nat) y, j < n → x[j]? = some y → w.cell? ⟨bl, off + i * n + j, none⟩ = some (.int .i64 y) := by
  rcases h with rfl | ⟨bl, off, hq, hb, ha⟩
  · simp at hx
  · obtain ⟨vs, hvs, hc⟩ := ha i x hx
    rw [NumsIs] at hvs
    subst hvs
    exact ⟨bl, off, hq, hb, fun j y hj hy => hc j _ hj (by rw [List.getElem?_map, hy]; rfl)⟩
end Go.Proofs.Ytapaangppidnoaa
