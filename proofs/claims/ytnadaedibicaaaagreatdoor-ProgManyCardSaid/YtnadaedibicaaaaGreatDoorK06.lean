/-
  The contracts of the project's cursor over tokens.
  The contract of sign (the document's answer).
  The contract of one (the document's answer), for texts of at most 6000 bytes.
  The contract of Tokens (the document's answer).
  The scanners of both sides.
  A text's tokens in memory; a token's text is no longer than the text.
-/
import Derived.Test.YtnadaedibicaaaaGreatDoorK04
import Derived.Test.YtnadaedibicaaaaGreatDoorK05
import Derived.Test.YtnadaedibicaaaaGreatDoorChecked
import Derived.ProofKit
import Derived.WalkKit
import Derived.BigCall
import Derived.Lib.Hide
import Derived.Lib.Strings
import Derived.Lib.BufferMore
import Derived.Outline
import Derived.Deep.QuietTactic
import Derived.BigQuiet
import Derived.IntWalk
import Derived.StillTailTactics
namespace Go.Proofs.YtnadaedibicaaaaGreatDoor
open Go.RowKit
open Px (RT tokAt)
open Pe

def cbs (l : List UInt8) : ByteArray := ⟨l.toArray⟩
theorem cbs_list (l : List UInt8) : (cbs l).toList = l := by rw [Lib.toList_data]; rfl
theorem cret_bool {a b : Bool} (h : a = b) : Ending.returned (.bool a) = .returned (.bool b) := by rw [h]

/-- Some tokens in memory, in a slice, as a value. -/
structure Toks (w : World) (R : Nat) (S : Value) (ts : List RT) : Prop where
  val : ∃ p n c, S = .slice p n c ∧ ts.length = n ∧ (n = 0 ∨ ∃ b off, p = some ⟨b, off, none⟩ ∧ b < w.heap.size ∧ b ≠ R ∧
    ∀ j t, ts[j]? = some t → w.cell? ⟨b, off + j * 4, none⟩ = some (.int .i64 t.kind) ∧ w.cell? ⟨b, off + j * 4 + 1, none⟩ = some (.string (cbs t.text)) ∧ w.cell? ⟨b, off + j * 4 + 2, none⟩ = some (.int .i64 t.num) ∧ w.cell? ⟨b, off + j * 4 + 3, none⟩ = some (.int .i64 t.at_))
  short : ∀ t ∈ ts, t.text.length ≤ 281474976710656

/-- Memory is only added, but for one block. -/
structure Gr (R : Nat) (w w' : World) : Prop where
  os : w'.os = w.os
  tape : w'.tape = w.tape
  output : w'.output = w.output
  size : w.heap.size ≤ w'.heap.size
  block : ∀ i, i < w.heap.size → i ≠ R → w'.heap[i]? = w.heap[i]?

theorem Gr.refl (R : Nat) (w : World) : Gr R w w := ⟨rfl, rfl, rfl, Nat.le_refl _, fun _ _ _ => rfl⟩
theorem Gr.of {R : Nat} {w w' : World} (h : Below w.heap.size w w') : Gr R w w' := ⟨h.os, h.tape, h.output, h.size, fun i hi _ => h.block i hi⟩
theorem Gr.trans {R : Nat} {w w1 w2 : World} (h : Gr R w w1) (g : Gr R w1 w2) : Gr R w w2 :=
  ⟨g.os.trans h.os, g.tape.trans h.tape, g.output.trans h.output, Nat.le_trans h.size g.size, fun i hi hn => (g.block i (Nat.lt_of_lt_of_le hi h.size) hn).trans (h.block i hi hn)⟩
theorem Gr.set {R : Nat} {w w1 : World} (h : Gr R w w1) (o : Nat) (u : Value) : Gr R w (w1.setCell ⟨R, o, none⟩ u) := by
  have hb := (Below.refl 0 w1).setCell (p := ⟨R, o, none⟩) (Nat.zero_le _) u
  refine ⟨hb.os.trans h.os, hb.tape.trans h.tape, hb.output.trans h.output, Nat.le_trans h.size hb.size, fun i hi hn => ?_⟩
  rw [Below.heap_setCell w1 ⟨R, o, none⟩ u i hn]
  exact h.block i hi hn
theorem Gr.below {R : Nat} {w w1 w2 : World} (h : Gr R w w1) (hb : Below w1.heap.size w1 w2) : Gr R w w2 := h.trans (Gr.of hb)
theorem Gr.drawn {R : Nat} {w w1 : World} (h : Gr R w w1) (n : Nat) : Gr R w (w1.drewN n) := ⟨h.os, h.tape, h.output, h.size, h.block⟩
theorem Gr.alloc {R : Nat} {w w1 : World} (h : Gr R w w1) (o : Obj) : Gr R w (w1.alloc o) := h.trans (Gr.of ((Below.refl _ _).alloc (Nat.le_refl _) _))
/-- A cell of a block that was made since. -/
theorem Gr.setNew {R : Nat} {w w1 : World} (h : Gr R w w1) {p : Addr} (hp : w.heap.size ≤ p.block) (u : Value) : Gr R w (w1.setCell p u) := by
  have hb := (Below.refl w.heap.size w1).setCell (p := p) hp u
  exact ⟨hb.os.trans h.os, hb.tape.trans h.tape, hb.output.trans h.output, Nat.le_trans h.size hb.size, fun i hi hn => (hb.block i hi).trans (h.block i hi hn)⟩

theorem Toks.gr {w w' : World} {R : Nat} {S : Value} {ts : List RT} (h : Toks w R S ts) (hg : Gr R w w') : Toks w' R S ts := by
  obtain ⟨p, n, c, hS, hn, hm⟩ := h.val
  refine ⟨⟨p, n, c, hS, hn, ?_⟩, h.short⟩
  rcases hm with h0 | ⟨b, off, hp, hb, hne, hc⟩
  · exact .inl h0
  · refine .inr ⟨b, off, hp, Nat.lt_of_lt_of_le hb hg.size, hne, fun j t ht => ?_⟩
    have hcc : ∀ o : Nat, w'.cell? ⟨b, o, none⟩ = w.cell? ⟨b, o, none⟩ := fun o => by
      have := hg.block b hb hne
      simp only [World.cell?, this]
    rw [hcc, hcc, hcc, hcc]
    exact hc j t ht

/-- The cursor in memory: the first four cells of a block (X: what follows them), and its tokens. -/
structure Cu (w : World) (R : Nat) (T : TypeId) (S : Value) (X : List Value) (ts : List RT) (s : Cs) : Prop where
  row : w.heap[R]? = some (.cells ⟨S :: .int .i64 s.k :: .int .i64 s.E :: .int .i64 s.F :: X⟩ T (0, 0))
  toks : Toks w R S ts

theorem Cu.lt {w : World} {R : Nat} {T : TypeId} {S : Value} {X : List Value} {ts : List RT} {s : Cs} (h : Cu w R T S X ts s) : R < w.heap.size := (Array.getElem?_eq_some_iff.1 h.row).1
theorem Cu.cells {w : World} {R : Nat} {T : TypeId} {S : Value} {X : List Value} {ts : List RT} {s : Cs} (h : Cu w R T S X ts s) :
    (w.cell? ⟨R, 0, none⟩ = some S ∧ w.cell? ⟨R, 1, none⟩ = some (.int .i64 s.k) ∧ w.cell? ⟨R, 2, none⟩ = some (.int .i64 s.E) ∧ w.cell? ⟨R, 3, none⟩ = some (.int .i64 s.F)) ∧
    (∀ i, w.frozen? ⟨R, i, none⟩ = false) ∧ R < w.heap.size := by
  have hr := h.row
  refine ⟨⟨?_, ?_, ?_, ?_⟩, fun i => frozen_of_row _ _ _ _ _ hr, h.lt⟩ <;> (rw [cell_of_row _ _ _ _ _ _ hr]; simp)
theorem Cu.go {w w' : World} {R : Nat} {T : TypeId} {S : Value} {X : List Value} {ts : List RT} {s : Cs} (h : Cu w R T S X ts s) (hb : Below w.heap.size w w') : Cu w' R T S X ts s :=
  ⟨(hb.block _ h.lt).trans h.row, h.toks.gr (Gr.of hb)⟩
theorem Cu.set_k {w : World} {R : Nat} {T : TypeId} {S : Value} {X : List Value} {ts : List RT} {s : Cs} (h : Cu w R T S X ts s) (q : Int) : Cu (w.setCell ⟨R, 1, none⟩ (.int .i64 q)) R T S X ts ⟨q, s.E, s.F⟩ :=
  ⟨by have := Lib.heap_setCell_same h.row (i := 1) (v := .int .i64 q); simpa using this, h.toks.gr ((Gr.refl R w).set 1 _)⟩
theorem Cu.set_f {w : World} {R : Nat} {T : TypeId} {S : Value} {X : List Value} {ts : List RT} {s : Cs} (h : Cu w R T S X ts s) (e a : Int) : Cu ((w.setCell ⟨R, 2, none⟩ (.int .i64 e)).setCell ⟨R, 3, none⟩ (.int .i64 a)) R T S X ts ⟨s.k, e, a⟩ := by
  have h1 := Lib.heap_setCell_same h.row (i := 2) (v := .int .i64 e)
  have h2 := Lib.heap_setCell_same h1 (i := 3) (v := .int .i64 a)
  exact ⟨by simpa using h2, h.toks.gr (((Gr.refl R w).set 2 _).set 3 _)⟩

def tokW (t : RT) : Value := .agg #[.int .i64 t.kind, .string (cbs t.text), .int .i64 t.num, .int .i64 t.at_]
theorem Toks.tok {w : World} {R : Nat} {S : Value} {ts : List RT} (h : Toks w R S ts) (k : Int) : (tokAt ts k).text.length ≤ 281474976710656 := by
  unfold tokAt
  split
  · rename_i hk
    have hq : k.toNat < ts.length := by omega
    have : ts.getD k.toNat RT.none = ts[k.toNat] := by simp [List.getD, hq]
    rw [this]
    exact h.short _ (List.getElem_mem hq)
  · exact Nat.zero_le _
theorem Toks.peek {w : World} {R : Nat} {S : Value} {ts : List RT} (h : Toks w R S ts) (s : Cs) : (Pe.peek ts s).text.length ≤ 281474976710656 := by
  unfold Pe.peek
  split
  · exact h.tok _
  · exact Nat.zero_le _
theorem drawn_bl {B : Nat} {w wr : World} (h : Below B w wr) (n : Nat) : Below B w (wr.drewN n) := ⟨h.os, h.tape, h.output, h.size, h.block⟩
theorem quad {w1 : World} {B : Nat} {T : TypeId} {a b c d : Value} (h : w1.heap[B]? = some (.cells #[a, b, c, d] T (0, 0))) :
    (w1.cell? ⟨B, 0, none⟩ = some a ∧ w1.cell? ⟨B, 1, none⟩ = some b ∧ w1.cell? ⟨B, 2, none⟩ = some c ∧ w1.cell? ⟨B, 3, none⟩ = some d) ∧
    (w1.frozen? ⟨B, 0, none⟩ = false ∧ w1.frozen? ⟨B, 1, none⟩ = false ∧ w1.frozen? ⟨B, 2, none⟩ = false ∧ w1.frozen? ⟨B, 3, none⟩ = false) :=
  ⟨⟨by rw [cell_of_row _ _ _ _ _ _ h]; rfl, by rw [cell_of_row _ _ _ _ _ _ h]; rfl, by rw [cell_of_row _ _ _ _ _ _ h]; rfl, by rw [cell_of_row _ _ _ _ _ _ h]; rfl⟩,
    frozen_of_row _ _ _ _ _ h, frozen_of_row _ _ _ _ _ h, frozen_of_row _ _ _ _ _ h, frozen_of_row _ _ _ _ _ h⟩

set_option maxHeartbeats 1000000 in
theorem peek_out (w : World) (R : Nat) (T : TypeId) (S : Value) (X : List Value) (ts : List RT) (s : Cs) (h : Cu w R T S X ts s) (hk : ¬ (s.E = 0 ∧ 0 ≤ s.k ∧ s.k < (ts.length : Int))) :
    Calls Tryz.prog 44 #[.pointer (some ⟨R, 0, none⟩)] w fun e w' => e = .returned (tokW RT.none) ∧ Below w.heap.size w w' := by
  obtain ⟨⟨c0, c1, c2, c3⟩, fr, hR⟩ := h.cells
  obtain ⟨p, n, c, rfl, hn, -⟩ := h.toks.val
  rw [hn] at hk
  obtain ⟨k, E, F⟩ := s
  dsimp only at c1 c2 c3 hk
  clear h hn
  have hbel := drawn_bl ((Below.refl w.heap.size w).alloc (Nat.le_refl _) (.cells #[.int .i64 0, .string ⟨#[]⟩, .int .i64 0, .int .i64 0] 66)) 
  by_cases hE : E = 0
  · subst hE
    by_cases h0 : k < 0
    · have hd0 : decide (k < 0) = true := decide_eq_true h0
      clear hk
      go_enter Tryz.func44, Tryz.ntmps44
      go_wp2
      go_quiet (fail)
      go_wp2
      refine bodyPost_ret (v := tokW RT.none) (by simp [tokW, RT.none, cbs, results, Tryz.results44, go_sem]) rfl ⟨rfl, ?_⟩
      exact ((((hbel _).setCell (Nat.le_refl _) _).setCell (Nat.le_refl _) _).setCell (Nat.le_refl _) _).setCell (Nat.le_refl _) _
    · have hd0 : decide (k < 0) = false := decide_eq_false h0
      have hd1 : decide ((n : Int) ≤ k) = true := decide_eq_true (by omega)
      clear hk
      go_enter Tryz.func44, Tryz.ntmps44
      go_wp2
      go_quiet (fail)
      go_wp2
      refine bodyPost_ret (v := tokW RT.none) (by simp [tokW, RT.none, cbs, results, Tryz.results44, go_sem]) rfl ⟨rfl, ?_⟩
      exact ((((hbel _).setCell (Nat.le_refl _) _).setCell (Nat.le_refl _) _).setCell (Nat.le_refl _) _).setCell (Nat.le_refl _) _
  · have hd0 : (E == 0) = false := by simpa using hE
    have hd1 : (E != 0) = true := by simpa using hE
    clear hk
    go_enter Tryz.func44, Tryz.ntmps44
    go_wp2
    go_quiet (fail)
    go_wp2
    refine bodyPost_ret (v := tokW RT.none) (by simp [tokW, RT.none, cbs, results, Tryz.results44, go_sem]) rfl ⟨rfl, ?_⟩
    exact ((((hbel _).setCell (Nat.le_refl _) _).setCell (Nat.le_refl _) _).setCell (Nat.le_refl _) _).setCell (Nat.le_refl _) _

set_option maxRecDepth 4000 in
set_option maxHeartbeats 1000000 in
theorem peek_in (w : World) (R : Nat) (T : TypeId) (S : Value) (X : List Value) (ts : List RT) (k F : Int) (h : Cu w R T S X ts ⟨k, 0, F⟩) (hk0 : 0 ≤ k) (hk1 : k < (ts.length : Int)) :
    Calls Tryz.prog 44 #[.pointer (some ⟨R, 0, none⟩)] w fun e w' => e = .returned (tokW (tokAt ts k)) ∧ Below w.heap.size w w' := by
  obtain ⟨⟨c0, c1, c2, c3⟩, fr, hR⟩ := h.cells
  obtain ⟨p, n, c, rfl, hn, hm⟩ := h.toks.val
  obtain ⟨q, rfl⟩ : ∃ q : Nat, k = q := ⟨k.toNat, by omega⟩
  have hq : q < ts.length := by omega
  have ht : ts[q]? = some (tokAt ts q) := by
    rw [tokAt, if_pos ⟨hk0, by omega⟩, List.getElem?_eq_getElem hq]
    simp [List.getD, hq]
  generalize tokAt ts q = t at ht ⊢
  rcases hm with h0 | ⟨b, off, rfl, hb, hne, hc⟩
  · omega
  obtain ⟨t0, t1, t2, t3⟩ := hc q t ht
  have hki : (q : Int) < (n : Int) := by omega
  have hkn : q < n := by omega
  have hd0 : decide ((q : Int) < 0) = false := decide_eq_false (by omega)
  have hd1 : decide ((n : Int) ≤ (q : Int)) = false := decide_eq_false (by omega)
  have hd2 : decide (n ≤ q) = false := decide_eq_false (by omega)
  dsimp only at c1 c2 c3
  clear h hn hc ht
  go_enter Tryz.func44, Tryz.ntmps44
  go_wp2
  go_quiet (fail)
  go_wp2
  obtain ⟨wq, hwq⟩ : ∃ wq, wq = ((w.alloc (.cells #[.int .i64 0, .string ⟨#[]⟩, .int .i64 0, .int .i64 0] 66)).drewN nq) := ⟨_, rfl⟩
  rw [← hwq]
  have hbel : Below w.heap.size w wq := by rw [hwq]; exact drawn_bl ((Below.refl _ _).alloc (Nat.le_refl _) _) _
  rw [← hbel.cell (p := ⟨R, _, none⟩) hR] at c0 c1
  rw [← hbel.cell (p := ⟨b, _, none⟩) hb] at t0 t1 t2 t3
  have hblk : wq.heap[w.heap.size]? = some (.cells #[.int .i64 0, .string ⟨#[]⟩, .int .i64 0, .int .i64 0] 66 (0, 0)) := by rw [hwq]; exact heap_alloc_new w _
  obtain ⟨⟨d0, d1, d2, d3⟩, g0, g1, g2, g3⟩ := quad hblk
  clear hwq hblk c2 c3 fr hd0 hd1 hd2
  refine wp_region_still_tail 10 (by kernel_rfl) (by kernel_rfl) ?_
  simp only [List.take_succ_cons, List.take_zero, List.drop_succ_cons, List.drop_zero]
  change wpStill _ _ wq.drew _ _ _
  repeat still_step
  refine wpStill_nil ?_
  change wpList _ _ _ _ _ wq.drew
  go_wp2
  refine bodyPost_ret (v := tokW t) (by simp [tokW, results, Tryz.results44, go_sem, d0, d1, d2, d3]) rfl ⟨rfl, ?_⟩
  exact ((((drawn_bl hbel 1).setCell (Nat.le_refl _) _).setCell (Nat.le_refl _) _).setCell (Nat.le_refl _) _).setCell (Nat.le_refl _) _

theorem peek_any (w : World) (R : Nat) (T : TypeId) (S : Value) (X : List Value) (ts : List RT) (s : Cs) (h : Cu w R T S X ts s) :
    Calls Tryz.prog 44 #[.pointer (some ⟨R, 0, none⟩)] w fun e w' => e = .returned (tokW (peek ts s)) ∧ Below w.heap.size w w' := by
  by_cases hk : s.E = 0 ∧ 0 ≤ s.k ∧ s.k < (ts.length : Int)
  · obtain ⟨k, E, F⟩ := s
    obtain ⟨rfl, hk0, hk1⟩ := hk
    exact peek_in w R T S X ts k F h hk0 hk1
  · have hp : peek ts s = RT.none := by
      unfold peek
      split
      · exact Px.tokAt_out fun hh => hk ⟨by assumption, hh.1, hh.2⟩
      · rfl
    rw [hp]
    exact peek_out w R T S X ts s h hk
end Go.Proofs.YtnadaedibicaaaaGreatDoor
namespace Go.Proofs.YtnadaedibicaaaaGreatDoor.Ln
open Go.RowKit

end Go.Proofs.YtnadaedibicaaaaGreatDoor.Ln
namespace Go.Proofs.YtnadaedibicaaaaGreatDoor.Ln
open Go.RowKit

/-- The tests ahead of a number, as the answer asks them. -/
structure RefTests (s : ByteArray) (k m : Nat) (hk : k < s.size) (padded runsOn : Bool) : Prop where
  pad : (((s[k].toNat : Int) == 48) = true ∧ 1 < m ∧ padded = true) ∨ (((s[k].toNat : Int) == 48) = false ∧ 1 < m ∧ padded = false) ∨ (m ≤ 1 ∧ padded = false)
  run : (∃ hn : k + m < s.size, (∀ w, Calls Tryz.prog 80 #[.int .u8 (s[k + m].toNat : Int)] w fun e w' => e = .returned (.bool runsOn) ∧ w = w')) ∨ (s.size ≤ k + m ∧ runsOn = false)
end Go.Proofs.YtnadaedibicaaaaGreatDoor.Ln
namespace Go.Proofs.YtnadaedibicaaaaGreatDoor.Ln
open Go.RowKit

end Go.Proofs.YtnadaedibicaaaaGreatDoor.Ln

namespace Go.Proofs.YtnadaedibicaaaaGreatDoor
open Go.RowKit
open Px (RT tokAt)
open Pe

def toRT (t : Ln.Lx.Tk) : RT := ⟨t.kind, t.text, t.num, t.at_⟩
theorem cells_at : ∀ (us : List Ln.Lx.Tk) (j : Nat) (t : Ln.Lx.Tk), us[j]? = some t → (Ln.cellsOf us)[j * 4]? = some (.int .i64 t.kind) ∧ (Ln.cellsOf us)[j * 4 + 1]? = some (.string (cbs t.text)) ∧ (Ln.cellsOf us)[j * 4 + 2]? = some (.int .i64 t.num) ∧ (Ln.cellsOf us)[j * 4 + 3]? = some (.int .i64 t.at_)
  | [], j, t, h => by simp at h
  | u :: us, 0, t, h => by
    simp at h
    subst h
    exact ⟨rfl, rfl, rfl, rfl⟩
  | u :: us, j + 1, t, h => by
    have := cells_at us j t (by simpa using h)
    have hl : (Ln.tokCells u).length = 4 := rfl
    refine ⟨?_, ?_, ?_, ?_⟩ <;> rw [Ln.cellsOf, List.flatMap_cons]
    · rw [List.getElem?_append_right (by omega), hl, show (j + 1) * 4 - 4 = j * 4 from by omega]; exact this.1
    · rw [List.getElem?_append_right (by omega), hl, show (j + 1) * 4 + 1 - 4 = j * 4 + 1 from by omega]; exact this.2.1
    · rw [List.getElem?_append_right (by omega), hl, show (j + 1) * 4 + 2 - 4 = j * 4 + 2 from by omega]; exact this.2.2.1
    · rw [List.getElem?_append_right (by omega), hl, show (j + 1) * 4 + 3 - 4 = j * 4 + 3 from by omega]; exact this.2.2.2
theorem toks_of {w : World} {A : Option Addr} {c : Nat} {us : List Ln.Lx.Tk} (h : Ln.Lies w w.heap.size A (Ln.cellsOf us)) (hs : ∀ t ∈ us, t.text.length ≤ 281474976710656) : Toks w w.heap.size (.slice A us.length c) (us.map toRT) := by
  refine ⟨⟨A, us.length, c, rfl, by simp, ?_⟩, fun t ht => ?_⟩
  · cases us with
    | nil => exact .inl rfl
    | cons u us =>
      obtain ⟨g, hA, hg, hc⟩ := h (by simp [Ln.cellsOf, Ln.tokCells])
      refine .inr ⟨g, 0, hA, hg, Nat.ne_of_lt hg, fun j t ht => ?_⟩
      rw [List.getElem?_map, Option.map_eq_some_iff] at ht
      obtain ⟨t', ht', rfl⟩ := ht
      obtain ⟨h0, h1, h2, h3⟩ := cells_at (u :: us) j t' ht'
      rw [show 0 + j * 4 = j * 4 by omega]
      exact ⟨hc _ _ h0, hc _ _ h1, hc _ _ h2, hc _ _ h3⟩
  · obtain ⟨t', ht', rfl⟩ := List.mem_map.1 ht
    exact hs t' ht'
theorem one_text {r : List UInt8} {kind : Nat} {text : List UInt8} {num m : Nat} (h : Ln.Lx.one r = some (kind, text, num, m)) : text.length ≤ r.length := by
  unfold Ln.Lx.one at h
  split at h
  · cases h
  · rename_i c r'
    split at h
    · split at h
      · simp only [Option.some.injEq, Prod.mk.injEq] at h
        rw [← h.2.1, List.length_take]; omega
      · split at h
        · simp only [Option.some.injEq, Prod.mk.injEq] at h
          rw [← h.2.1, List.length_take]; omega
        · cases h
    · split at h
      · split at h
        · cases h
        · simp only [Option.some.injEq, Prod.mk.injEq] at h
          rw [← h.2.1]; exact Nat.zero_le _
      · split at h
        · cases h
        · rename_i g hg
          simp only [Option.some.injEq, Prod.mk.injEq] at h
          have := Ln.Lx.signAt_le hg
          rw [← h.2.1]; exact this
theorem lexF_text : ∀ (f k : Nat) (r : List UInt8) (ts : List Ln.Lx.Tk), Ln.Lx.lexF f k r = .ok ts → ∀ t ∈ ts, t.text.length ≤ r.length
  | 0, _, _, _, h => by simp [Ln.Lx.lexF] at h
  | f + 1, k, [], ts, h => by
    simp only [Ln.Lx.lexF] at h
    injection h with h
    rw [← h]; intro t ht; cases ht
  | f + 1, k, c :: r, ts, h => by
    rw [Ln.Lx.lexF] at h
    split at h
    · cases h
    · rename_i kind text num m h1
      have hm := one_text h1
      split at h
      · cases h
      · rename_i us hu
        have := lexF_text f _ _ us hu
        injection h with h
        rw [← h]
        intro t ht
        rcases List.mem_cons.1 ht with rfl | ht
        · exact hm
        · have := this t ht
          rw [List.length_drop] at this
          omega
theorem toks_text (l : List UInt8) : ∀ t ∈ (Ln.Lx.toks l).1, t.text.length ≤ 281474976710656 := by
  unfold Ln.Lx.toks
  by_cases h : 6000 < l.length
  · rw [if_pos h]; intro t ht; cases ht
  · rw [if_neg h]
    cases h2 : Ln.Lx.lexAll l with
    | error k => intro t ht; cases ht
    | ok ts =>
      intro t ht
      rcases List.mem_append.1 ht with ht | ht
      · have := lexF_text _ _ _ ts h2 t ht
        rw [List.length_drop] at this
        omega
      · rw [List.mem_singleton] at ht
        subst ht
        exact Nat.zero_le _
end Go.Proofs.YtnadaedibicaaaaGreatDoor
