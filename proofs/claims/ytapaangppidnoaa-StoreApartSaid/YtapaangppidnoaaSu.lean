/-
  A store and a list of its references.
-/
import Derived.Test.YtapaangppidnoaaSt
namespace Go.Proofs.Ytapaangppidnoaa
open Go.RowKit

/-- The references in their order. -/
def refV (m : Nat) : List Value := (List.range m).map fun (j : Nat) => .int .i64 ((j : Int) + 1)
/-- A store that the call made first, what it holds, and a list r of the first m references in memory of its own. -/
def Ap (W : World) (L : List (List Int)) (r : Value) (m : Nat) (w : World) : Prop :=
  ∃ v os, Sto w W.heap.size 44 v os ∧ cnt os = L ∧ w.ownsRow (W.heap.size + 1) 3 1 r m (refV m) ∧ (∀ k, r.ownBlock = some k → ¬ Own W.heap.size v os k) ∧ Below W.heap.size W w
section
variable {W w w1 : World} {L : List (List Int)} {r r' : Value} {m : Nat}
theorem Ap.below (h : Ap W L r m w) : Below W.heap.size W w := by
  obtain ⟨v, os, -, -, -, -, h0⟩ := h
  exact h0
theorem Ap.new (W : World) : Ap W [] (.slice none 0 0) 0 (W.alloc (.cells #[.slice none 0 0] 44)) :=
  ⟨_, [], Sto.nil _ _, rfl, World.ownsRow_nil _ _ _ _, fun k hk => (by cases hk), (Below.refl _ _).alloc (Nat.le_refl _) _⟩
theorem Ap.to {v v' : Value} {os os' : List Ob} (hs : Sto w W.heap.size 44 v os) (hr : w.ownsRow (W.heap.size + 1) 3 1 r m (refV m)) (hx : ∀ k, r.ownBlock = some k → ¬ Own W.heap.size v os k) (h0 : Below W.heap.size W w)
    (h1 : Sto w1 W.heap.size 44 v' os') (ho : ∀ k, Own W.heap.size v' os' k → Own W.heap.size v os k ∨ w.heap.size ≤ k) (hk : Ke (Own W.heap.size v os) w w1) : Ap W (cnt os') r m w1 :=
  ⟨v', os', h1, rfl, own_keep hr (fun k hk' => hk.block k (hr.lt k hk').2 (hx k hk')), fun k hk' hv => by
    rcases ho k hv with e | e
    · exact hx k hk' e
    · have := (hr.lt k hk').2
      omega, h0.trans (hk.below h0.size (fun _ hb => (hs.lt hb).1))⟩
theorem arrA (h : Ap W L r m w) (x t : Int) (n : Nat) (hx : x = (n : Int)) (hn : n ≤ 50) (hl : L.length ≤ 1000000) (ht : t = (L.length : Int) + 1) : Calls Try.prog 11 #[.pointer (some ⟨W.heap.size, 0, none⟩), .int .i64 x] w fun e w' => e = .returned (.tuple #[.int .i64 t, .int .i64 0]) ∧ Ap W (L ++ [List.replicate n 0]) r m w' := by
  subst hx ht
  obtain ⟨v, os, hs, rfl, hr, hx, h0⟩ := h
  rw [cnt_len] at hl ⊢
  refine (arr_yes hs n hn hl).mono fun e w' ⟨he, v', b, h3, ho, hk⟩ => ⟨he, ?_⟩
  have := Ap.to hs hr hx h0 h3 ho hk
  rw [cnt_push] at this
  exact this
theorem putA (h : Ap W L r m w) (ref i x t : Int) (ht : (loadP L ref i).2 = t) : Calls Try.prog 15 #[.pointer (some ⟨W.heap.size, 0, none⟩), .int .i64 ref, .int .i64 i, .int .i64 x] w fun e w' => e = .returned (.int .i64 t) ∧ Ap W (putP L ref i x) r m w' := by
  obtain ⟨v, os, hs, rfl, hr, hx, h0⟩ := h
  refine (put_any hs ref i x).mono fun e w' ⟨he, os', h3, hc, ho, hk⟩ => ⟨by rw [he, ht], ?_⟩
  have := Ap.to hs hr hx h0 h3 (fun k hk => .inl (ho k hk)) hk
  rw [hc] at this
  exact this
theorem loadA (h : Ap W L r m w) (ref i x t : Int) (ht : loadP L ref i = (x, t)) : Calls Try.prog 13 #[.pointer (some ⟨W.heap.size, 0, none⟩), .int .i64 ref, .int .i64 i] w fun e w' => e = .returned (.tuple #[.int .i64 x, .int .i64 t]) ∧ w = w' := by
  obtain ⟨v, os, hs, rfl, hr, hx, h0⟩ := h
  have := load_any hs ref i
  rw [ht] at this
  exact this
theorem manyA (h : Ap W L r m w) (t : Int) (ht : t = (L.length : Int)) : Calls Try.prog 19 #[.pointer (some ⟨W.heap.size, 0, none⟩)] w fun e w' => e = .returned (.int .i64 t) ∧ w = w' := by
  obtain ⟨v, os, hs, rfl, hr, hx, h0⟩ := h
  rw [ht, cnt_len]
  exact many_any hs
theorem Ap.slice (h : Ap W L r m w) : ∃ q c, r = .slice q m c := by
  obtain ⟨v, os, hs, rfl, hr, hx, h0⟩ := h
  exact own_slice hr
theorem ref_snoc (m : Nat) : refV (m + 1) = refV m ++ [.int .i64 ((m : Int) + 1)] := by
  rw [refV, List.range_succ, List.map_append]
  rfl
/-- A reference. -/
theorem Ap.ref (h : Ap W L r m w) {i : Nat} (hi : i < m) : ∃ g c, r = .slice (some ⟨g, 0, none⟩) m c ∧ w.cell? ⟨g, i, none⟩ = some (.int .i64 ((i : Int) + 1)) := by
  obtain ⟨v, os, hs, rfl, hr, hx, h0⟩ := h
  rcases hr.2 with ⟨-, hm⟩ | ⟨g, cap, cur, hv, -⟩
  · omega
  · refine ⟨g, cap, hv, ?_⟩
    rw [hv] at hr
    rw [hr.cellAt i (by omega), refV, List.getElem?_map, List.getElem?_range hi]
    rfl
/-- One reference more. -/
theorem Ap.push {o : Obj} (h : Ap W L r m w) (hown : w1.ownsRow (W.heap.size + 1) 3 1 r' (m + 1) (refV m ++ [.int .i64 ((m : Int) + 1)])) (hg : (w.alloc o).grownBy w1 r.ownBlock) (hat : r'.ownBlock = r.ownBlock ∨ r'.ownBlock = some (w.heap.size + 1)) : Ap W L r' (m + 1) w1 := by
  obtain ⟨v, os, hs, hc, hr, hx, h0⟩ := h
  have hkeep : ∀ k, k < w.heap.size → r.ownBlock ≠ some k → w1.heap[k]? = w.heap[k]? := fun k hk hne => by
    rw [hg.block k (by rw [size_alloc]; omega) (fun e => hne e.symm), heap_alloc_old _ _ hk]
  have hsz : w.heap.size ≤ w1.heap.size := by have := hg.size; rw [size_alloc] at this; omega
  refine ⟨v, os, hs.keep (fun k hk => hkeep k (hs.lt hk).2 (fun e => hx k e hk)), hc, by rw [ref_snoc]; exact hown, fun k hk hv => ?_, ?_⟩
  · rcases hat with e | e
    · rw [e] at hk
      exact hx k hk hv
    · rw [e] at hk
      injection hk with hk
      have := (hs.lt hv).2
      omega
  · exact ⟨hg.os.trans h0.os, hg.tape.trans h0.tape, hg.output.trans h0.output, Nat.le_trans h0.size hsz, fun k hk => (hkeep k (Nat.lt_of_lt_of_le hk h0.size) (fun e => by have := hr.lt k e; omega)).trans (h0.block k hk)⟩
end
end Go.Proofs.Ytapaangppidnoaa
