/-
  A store in memory: objects in blocks of their own, and a list of them; what keeps it as it is.
-/
import Derived.Test.YtapaangppidnoaaChecked
import Derived.WalkKit
import Derived.OneCell
import Derived.OwnWalk
import Derived.Lib.Hide
import Derived.Maps.AppendAt
namespace Go.Proofs.Ytapaangppidnoaa
open Go.RowKit

/-- An object: the number of its block, and what its cells contain. -/
abbrev Ob := Nat × List Int
/-- An object as a slice. -/
def obV (o : Ob) : Value := .slice (some ⟨o.1, 0, none⟩) o.2.length o.2.length
/-- An object's cells. -/
def obC (l : List Int) : Array Value := (l.map (Value.int .i64)).toArray
/-- A store: its own cell, the list of its objects, each object's block; no two blocks are one. -/
structure Sto (w : World) (p : Nat) (T : TypeId) (v : Value) (os : List Ob) : Prop where
  box : w.heap[p]? = some (.cells #[v] T (0, 0))
  row : w.ownsRow (p + 1) 39 1 v os.length (os.map obV)
  obj : ∀ o ∈ os, w.heap[o.1]? = some (.cells (obC o.2) 3 (0, 0))
  far : ∀ o ∈ os, p < o.1 ∧ v.ownBlock ≠ some o.1
  nod : (os.map (·.1)).Nodup
  fit : ∀ o ∈ os, o.2.length ≤ 50
/-- The blocks that are a store's. -/
def Own (p : Nat) (v : Value) (os : List Ob) (k : Nat) : Prop := k = p ∨ v.ownBlock = some k ∨ ∃ o ∈ os, o.1 = k
/-- But for some blocks, and what is new, the world is as it was. -/
structure Ke (P : Nat → Prop) (w w' : World) : Prop where
  os : w'.os = w.os
  tape : w'.tape = w.tape
  output : w'.output = w.output
  size : w.heap.size ≤ w'.heap.size
  block : ∀ k, k < w.heap.size → ¬ P k → w'.heap[k]? = w.heap[k]?
section
variable {P Q : Nat → Prop} {w w1 w2 : World}
theorem Ke.refl (P : Nat → Prop) (w : World) : Ke P w w := ⟨rfl, rfl, rfl, Nat.le_refl _, fun _ _ _ => rfl⟩
theorem Ke.trans (h : Ke P w w1) (k : Ke Q w1 w2) (hq : ∀ b, b < w.heap.size → Q b → P b) : Ke P w w2 :=
  ⟨k.os.trans h.os, k.tape.trans h.tape, k.output.trans h.output, Nat.le_trans h.size k.size, fun b hb hp => (k.block b (Nat.lt_of_lt_of_le hb h.size) (fun hx => hp (hq b hb hx))).trans (h.block b hb hp)⟩
theorem Ke.mono (h : Ke P w w1) (hq : ∀ b, P b → Q b) : Ke Q w w1 := ⟨h.os, h.tape, h.output, h.size, fun b hb hp => h.block b hb (fun hx => hp (hq b hx))⟩
theorem Ke.of (h : Below w.heap.size w w1) : Ke P w w1 := ⟨h.os, h.tape, h.output, h.size, fun b hb _ => h.block b hb⟩
theorem Ke.below {B : Nat} (h : Ke P w w1) (hB : B ≤ w.heap.size) (hp : ∀ b, P b → B ≤ b) : Below B w w1 :=
  ⟨h.os, h.tape, h.output, h.size, fun b hb => h.block b (Nat.lt_of_lt_of_le hb hB) (fun hx => by have := hp b hx; omega)⟩
end
section
variable {w w1 : World} {p : Nat} {T : TypeId} {v v' : Value} {os : List Ob}
theorem size_alloc (w : World) (o : Obj) : (w.alloc o).heap.size = w.heap.size + 1 := by simp
theorem size_set (w : World) (a : Addr) (u : Value) : (w.setCell a u).heap.size = w.heap.size := by simp [World.setCell]
theorem own_keep {base m sz : Nat} {xs : List Value} {t : TypeId} (h : w.ownsRow base t sz v m xs) (hk : ∀ k, v.ownBlock = some k → w1.heap[k]? = w.heap[k]?) : w1.ownsRow base t sz v m xs := by
  refine ⟨h.1, ?_⟩
  rcases h.2 with h0 | ⟨g, cap, cur, hv, hb, hc, hr⟩
  · exact .inl h0
  · exact .inr ⟨g, cap, cur, hv, hb, (hk g (by rw [hv]; rfl)).trans hc, hr⟩
theorem Sto.lt (h : Sto w p T v os) {k : Nat} (hk : Own p v os k) : p ≤ k ∧ k < w.heap.size := by
  rcases hk with rfl | hk | ⟨o, ho, rfl⟩
  · exact ⟨Nat.le_refl _, lt_of_block h.box⟩
  · have := h.row.lt k hk
    omega
  · exact ⟨Nat.le_of_lt (h.far o ho).1, lt_of_block (h.obj o ho)⟩
theorem Sto.plt (h : Sto w p T v os) : p < w.heap.size := lt_of_block h.box
theorem Sto.keep (h : Sto w p T v os) (hk : ∀ k, Own p v os k → w1.heap[k]? = w.heap[k]?) : Sto w1 p T v os :=
  ⟨(hk p (.inl rfl)).trans h.box, own_keep h.row (fun k hv => hk k (.inr (.inl hv))), fun o ho => (hk o.1 (.inr (.inr ⟨o, ho, rfl⟩))).trans (h.obj o ho), h.far, h.nod, h.fit⟩
/-- Another's doing. -/
theorem Sto.ke {P : Nat → Prop} (h : Sto w p T v os) (hk : Ke P w w1) (hp : ∀ k, Own p v os k → ¬ P k) : Sto w1 p T v os :=
  h.keep fun k ho => hk.block k (h.lt ho).2 (hp k ho)
theorem Sto.below (h : Sto w p T v os) (hb : Below w.heap.size w w1) : Sto w1 p T v os := h.keep fun k ho => hb.block k (h.lt ho).2
/-- Nothing is in it yet. -/
theorem Sto.nil (w : World) (T : TypeId) : Sto (w.alloc (.cells #[.slice none 0 0] T)) w.heap.size T (.slice none 0 0) [] :=
  ⟨heap_alloc_new w _, World.ownsRow_nil _ _ _ _, (fun o ho => by cases ho), (fun o ho => by cases ho), by simp, (fun o ho => by cases ho)⟩
theorem own_nil {k : Nat} (h : Own p (.slice none 0 0) [] k) : k = p := by
  rcases h with h | h | ⟨o, ho, -⟩
  · exact h
  · cases h
  · cases ho
/-- The list of objects, as a value. -/
theorem Sto.slice (h : Sto w p T v os) : ∃ q c, v = .slice q os.length c := by
  rcases h.row.2 with ⟨hv, h0⟩ | ⟨g, cap, cur, hv, -⟩
  · exact ⟨none, 0, by rw [h0]; exact hv⟩
  · exact ⟨_, cap, hv⟩
theorem Sto.len (h : Sto w p T v os) : os.length ≤ 9223372036854775807 := by
  rcases h.row.2 with ⟨-, h0⟩ | ⟨g, cap, cur, hv, hb, hc, h1, h2, -⟩
  · omega
  · unfold maxLen at h2
    omega
theorem Sto.cell (h : Sto w p T v os) : w.cell? ⟨p, 0, none⟩ = some v := cell_of_one h.box
theorem Sto.free (h : Sto w p T v os) : w.frozen? ⟨p, 0, none⟩ = false := free_of_one h.box
/-- An object's place. -/
theorem Sto.at (h : Sto w p T v os) {i : Nat} {o : Ob} (hi : os[i]? = some o) : ∃ g c, v = .slice (some ⟨g, 0, none⟩) os.length c ∧ w.cell? ⟨g, i, none⟩ = some (obV o) := by
  have hlt : i < os.length := (List.getElem?_eq_some_iff.1 hi).1
  have hr := h.row
  rcases hr.2 with ⟨-, h0⟩ | ⟨g, cap, cur, hv, -⟩
  · omega
  · refine ⟨g, cap, hv, ?_⟩
    rw [hv] at hr
    rw [hr.cellAt i (by omega), List.getElem?_map, hi]
    rfl
/-- A cell of an object. -/
theorem Sto.cel (h : Sto w p T v os) {i : Nat} {o : Ob} (hi : os[i]? = some o) {j : Nat} {x : Int} (hj : o.2[j]? = some x) : w.cell? ⟨o.1, j, none⟩ = some (.int .i64 x) ∧ w.frozen? ⟨o.1, j, none⟩ = false := by
  have hm : o ∈ os := List.mem_of_getElem? hi
  have hb := h.obj o hm
  refine ⟨?_, frozen_of_row _ _ _ _ _ hb⟩
  rw [cell_of_row _ _ _ _ _ _ hb, obC, List.getElem?_toArray, List.getElem?_map, hj]
  rfl
/-- One more object: its block, a block for its slice, the list that has grown, the store's own cell. -/
theorem Sto.push {l : List Int} {b : Obj} (h : Sto w p T v os) (hl : l.length ≤ 50) (hown : w1.ownsRow (p + 1) 39 1 v' (os.length + 1) (os.map obV ++ [obV (w.heap.size, l)]))
    (hgrow : ((w.alloc (.cells (obC l) 3)).alloc b).grownBy w1 v.ownBlock) (hat : v'.ownBlock = v.ownBlock ∨ v'.ownBlock = some (w.heap.size + 2)) :
    Sto (w1.setCell ⟨p, 0, none⟩ v') p T v' (os ++ [(w.heap.size, l)]) ∧ Ke (Own p v os) w (w1.setCell ⟨p, 0, none⟩ v') ∧ ∀ k, v'.ownBlock = some k → v.ownBlock = some k ∨ w.heap.size ≤ k := by
  have hp := h.plt
  have hvlt : ∀ k, v.ownBlock = some k → p < k ∧ k < w.heap.size := fun k hk => by have := h.row.lt k hk; omega
  have hold : ∀ k, k < w.heap.size → v.ownBlock ≠ some k → w1.heap[k]? = w.heap[k]? := fun k hk hv => by
    rw [hgrow.block k (by rw [size_alloc, size_alloc]; omega) (fun e => hv e.symm), heap_alloc_old _ _ (by rw [size_alloc]; omega), heap_alloc_old _ _ hk]
  have hset : ∀ k, k ≠ p → (w1.setCell ⟨p, 0, none⟩ v').heap[k]? = w1.heap[k]? := fun k hk => heap_setCell_other w1 ⟨p, 0, none⟩ k v' hk
  have hsz : w.heap.size ≤ w1.heap.size := by have := hgrow.size; rw [size_alloc, size_alloc] at this; omega
  have hpv : v.ownBlock ≠ some p := fun e => by have := hvlt p e; omega
  have hvp : ∀ k, v'.ownBlock = some k → k ≠ p ∧ (v.ownBlock = some k ∨ k = w.heap.size + 2) := fun k hk => by
    have hh := hown.lt k hk
    rcases hat with e | e
    · rw [e] at hk; exact ⟨by omega, .inl hk⟩
    · rw [e] at hk; injection hk with hk; exact ⟨by omega, .inr hk.symm⟩
  refine ⟨⟨?_, ?_, ?_, ?_, ?_, ?_⟩, ⟨hgrow.os, hgrow.tape, hgrow.output, by rw [size_set]; exact hsz, fun k hk ho => ?_⟩, fun k hk => ?_⟩
  · exact one_setCell ((hold p hp hpv).trans h.box)
  · refine own_keep ?_ (fun k hk => hset k (hvp k hk).1)
    rw [List.length_append, List.map_append]
    exact hown
  · intro o ho
    rcases List.mem_append.1 ho with ho | ho
    · have h1 := h.far o ho
      have h2 := lt_of_block (h.obj o ho)
      rw [hset _ (by omega), hold _ h2 h1.2]
      exact h.obj o ho
    · obtain rfl := List.mem_singleton.1 ho
      have hne : v.ownBlock ≠ some w.heap.size := fun e => by have := hvlt _ e; omega
      show (w1.setCell ⟨p, 0, none⟩ v').heap[w.heap.size]? = _
      rw [hset _ (by omega), hgrow.block _ (by rw [size_alloc, size_alloc]; omega) (fun e => hne e.symm), heap_alloc_old _ _ (by rw [size_alloc]; omega)]
      exact heap_alloc_new w _
  · intro o ho
    rcases List.mem_append.1 ho with ho | ho
    · have h1 := h.far o ho
      have h2 := lt_of_block (h.obj o ho)
      refine ⟨h1.1, fun e => ?_⟩
      rcases (hvp _ e).2 with e | e
      · exact h1.2 e
      · omega
    · obtain rfl := List.mem_singleton.1 ho
      refine ⟨hp, fun e => ?_⟩
      rcases (hvp _ e).2 with e | e
      · have := hvlt _ e; omega
      · omega
  · rw [List.map_append, List.nodup_append]
    refine ⟨h.nod, by simp, fun a ha b hb => ?_⟩
    obtain ⟨o, ho, rfl⟩ := List.mem_map.1 ha
    have h2 := lt_of_block (h.obj o ho)
    have hb' : b = w.heap.size := by simpa using hb
    omega
  · intro o ho
    rcases List.mem_append.1 ho with ho | ho
    · exact h.fit o ho
    · obtain rfl := List.mem_singleton.1 ho
      exact hl
  · rw [hset k (fun e => ho (.inl e)), hold k hk (fun e => ho (.inr (.inl e)))]
  · rcases (hvp k hk).2 with e | e
    · exact .inl e
    · exact .inr (by omega)
/-- A cell is set. -/
theorem Sto.put (h : Sto w p T v os) {i : Nat} {o : Ob} (hi : os[i]? = some o) (j : Nat) (x : Int) :
    Sto (w.setCell ⟨o.1, j, none⟩ (.int .i64 x)) p T v (os.set i (o.1, o.2.set j x)) ∧ Ke (Own p v os) w (w.setCell ⟨o.1, j, none⟩ (.int .i64 x)) := by
  have hlt : i < os.length := (List.getElem?_eq_some_iff.1 hi).1
  have hm : o ∈ os := List.mem_of_getElem? hi
  have hset : ∀ k, k ≠ o.1 → (w.setCell ⟨o.1, j, none⟩ (.int .i64 x)).heap[k]? = w.heap[k]? := fun k hk => heap_setCell_other w ⟨o.1, j, none⟩ k _ hk
  have hfar := h.far o hm
  have hmap : (os.set i (o.1, o.2.set j x)).map (·.1) = os.map (·.1) := by
    rw [List.map_set]
    refine List.ext_getElem? fun n => ?_
    rw [List.getElem?_set]
    split
    · rename_i hin
      subst hin
      rw [if_pos (by rw [List.length_map]; exact hlt), List.getElem?_map, hi]
      rfl
    · rfl
  have hmem : ∀ u ∈ os.set i (o.1, o.2.set j x), u = (o.1, o.2.set j x) ∨ (u ∈ os ∧ u.1 ≠ o.1) := by
    intro u hu
    obtain ⟨n, hn⟩ := List.mem_iff_getElem?.1 hu
    rw [List.getElem?_set] at hn
    split at hn
    · rename_i hin
      subst hin
      try rw [if_pos hlt] at hn
      exact .inl (Option.some.inj hn).symm
    · rename_i hne
      refine .inr ⟨List.mem_of_getElem? hn, fun e => hne ?_⟩
      have hnl : n < os.length := (List.getElem?_eq_some_iff.1 hn).1
      have h1 : (os.map (·.1))[i]? = some o.1 := by rw [List.getElem?_map, hi]; rfl
      have h2 : (os.map (·.1))[n]? = some o.1 := by rw [List.getElem?_map, hn]; exact congrArg some e
      exact (List.getElem?_inj (by rw [List.length_map]; exact hlt) h.nod).1 (h1.trans h2.symm)
  refine ⟨⟨(hset p (by omega)).trans h.box, ?_, ?_, ?_, by rw [hmap]; exact h.nod, ?_⟩, ⟨rfl, rfl, rfl, by rw [size_set]; exact Nat.le_refl _, fun k _ ho => hset k (fun e => ho (.inr (.inr ⟨o, hm, e.symm⟩)))⟩⟩
  · rw [List.length_set, show (os.set i (o.1, o.2.set j x)).map obV = os.map obV from ?_]
    · exact own_keep h.row (fun k hk => hset k (fun e => hfar.2 (by rw [hk, e])))
    · rw [List.map_set]
      refine List.ext_getElem? fun n => ?_
      rw [List.getElem?_set]
      split
      · rename_i hin
        subst hin
        rw [if_pos (by rw [List.length_map]; exact hlt), List.getElem?_map, hi]
        simp [obV]
      · rfl
  · intro u hu
    rcases hmem u hu with rfl | ⟨h1, h2⟩
    · have := heap_setCell_same w o.1 j (obC o.2) 3 (.int .i64 x) (h.obj o hm)
      rw [this]
      simp [obC, List.map_set]
    · exact (hset _ h2).trans (h.obj u h1)
  · intro u hu
    rcases hmem u hu with rfl | ⟨h1, h2⟩
    · exact hfar
    · exact h.far u h1
  · intro u hu
    rcases hmem u hu with rfl | ⟨h1, h2⟩
    · have := h.fit o hm
      simpa using this
    · exact h.fit u h1
end
end Go.Proofs.Ytapaangppidnoaa
