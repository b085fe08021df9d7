/-
  What every law of chapter 3 asks besides: one text, read, and compared with itself.
-/
import Derived.Test.YtldhgoblimfhbaaDoorRp
import Derived.Test.YtldhgoblimfhbaaDoorSn
import Derived.Test.YtldhgoblimfhbaaDoorRefTok
import Derived.Deep.RegionHeld3
namespace Go.Proofs.YtldhgoblimfhbaaDoor
open Go.RowKit
open Px (RT tokAt)
open Pe

def toRT (t : Ln.Lx.Tk) : RT := ⟨t.kind, t.text, t.num, t.at_⟩
theorem cells_at : ∀ (us : List Ln.Lx.Tk) (j : Nat) (t : Ln.Lx.Tk), us[j]? = some t → (Ln.cellsOf us)[j * 4]? = some (.int .i64 t.kind) ∧ (Ln.cellsOf us)[j * 4 + 1]? = some (.string (cbs t.text)) ∧ (Ln.cellsOf us)[j * 4 + 2]? = some (.int .i64 t.num) ∧ (Ln.cellsOf us)[j * 4 + 3]? = some (.int .i64 t.at_)
  | [], j, t, h => by simp at h
  | u :: us, 0, t, h => by
    simp at h
    subst h
    exact ⟨rfl, rfl, rfl, rfl⟩
  | u :: us, j + 1, t, h => by
    have := cells_at us j t (by simpa using h)
    have hl : (Ln.tokCells u).length = 4 := rfl
    refine ⟨?_, ?_, ?_, ?_⟩ <;> rw [Ln.cellsOf, List.flatMap_cons]
    · rw [List.getElem?_append_right (by omega), hl, show (j + 1) * 4 - 4 = j * 4 from by omega]; exact this.1
    · rw [List.getElem?_append_right (by omega), hl, show (j + 1) * 4 + 1 - 4 = j * 4 + 1 from by omega]; exact this.2.1
    · rw [List.getElem?_append_right (by omega), hl, show (j + 1) * 4 + 2 - 4 = j * 4 + 2 from by omega]; exact this.2.2.1
    · rw [List.getElem?_append_right (by omega), hl, show (j + 1) * 4 + 3 - 4 = j * 4 + 3 from by omega]; exact this.2.2.2
theorem toks_of {w : World} {A : Option Addr} {c : Nat} {us : List Ln.Lx.Tk} (h : Ln.Lies w w.heap.size A (Ln.cellsOf us)) (hs : ∀ t ∈ us, t.text.length ≤ 281474976710656) : Toks w w.heap.size (.slice A us.length c) (us.map toRT) := by
  refine ⟨⟨A, us.length, c, rfl, by simp, ?_⟩, fun t ht => ?_⟩
  · cases us with
    | nil => exact .inl rfl
    | cons u us =>
      obtain ⟨g, hA, hg, hc⟩ := h (by simp [Ln.cellsOf, Ln.tokCells])
      refine .inr ⟨g, 0, hA, hg, Nat.ne_of_lt hg, fun j t ht => ?_⟩
      rw [List.getElem?_map, Option.map_eq_some_iff] at ht
      obtain ⟨t', ht', rfl⟩ := ht
      obtain ⟨h0, h1, h2, h3⟩ := cells_at (u :: us) j t' ht'
      rw [show 0 + j * 4 = j * 4 by omega]
      exact ⟨hc _ _ h0, hc _ _ h1, hc _ _ h2, hc _ _ h3⟩
  · obtain ⟨t', ht', rfl⟩ := List.mem_map.1 ht
    exact hs t' ht'
/-- Tokens of a text, by what they are. -/
theorem tokens_are (s : ByteArray) (hs : s.size ≤ maxLen) (us : List Ln.Lx.Tk) (E K : Nat) (h : Ln.Lx.toks s.data.toList = (us, E, K)) (w : World) :
    Calls Tryd.prog 9 #[.string s] w fun e w' => ∃ (A : Option Addr) (c : Nat), e = .returned (.tuple #[.slice A us.length c, .agg #[.int .i64 E, .int .i64 K]]) ∧ Ln.Lies w' w'.heap.size A (Ln.cellsOf us) ∧ Below w.heap.size w w' := by
  have := Ln.refTokens_any s hs w
  unfold Ln.TokRes at this
  rw [h] at this
  exact this

def knUs : List Ln.Lx.Tk := [⟨1, [97], 0, 0⟩, ⟨4, [43], 0, 2⟩, ⟨1, [98], 0, 4⟩, ⟨4, [42], 0, 6⟩, ⟨1, [99], 0, 8⟩, ⟨0, [], 0, 9⟩]
def knA : Ex := Ex.of 4 0 [97] [] 0 [] 0
def knM : Ex := Ex.of 16 0 [] [] 0 [Ex.of 4 0 [98] [] 0 [] 4, Ex.of 4 0 [99] [] 0 [] 8] 6
def knE : Ex := Ex.of 14 0 [] [] 0 [knA, knM] 2
set_option maxRecDepth 100000 in
theorem kn_toks : Ln.Lx.toks [97, 32, 43, 32, 98, 32, 42, 32, 99] = (knUs, 0, 0) := by kernel_rfl
set_option maxRecDepth 100000 in
theorem kn_parse : parse (knUs.map toRT) 40 0 0 = some (knE, 5, 0, 0) := by kernel_rfl
set_option maxRecDepth 100000 in
theorem kn_of : ofAns (knUs.map toRT) 0 = ([97], 0, 1, 0, 0) := by kernel_rfl
theorem kn_same1 : sameE knE knE = true := by kernel_rfl
theorem kn_same2 : sameE knE knA = false := by kernel_rfl
theorem kn_fit : fitE knE = true := by kernel_rfl
theorem kn_short : ∀ t ∈ knUs, t.text.length ≤ 281474976710656 := by decide

theorem cbs_inj {a b : List UInt8} (h : cbs a = cbs b) : a = b := by rw [← cbs_list a, ← cbs_list b, h]
theorem exCells_inj {k n : Int} {s o : List UInt8} {d : Int} {v : Value} {a b r e f : Int} {k2 n2 : Int} {s2 o2 : List UInt8} {d2 : Int} {v2 : Value} {a2 b2 r2 e2 f2 : Int} (h : exCells k n s o d v a b r e f = exCells k2 n2 s2 o2 d2 v2 a2 b2 r2 e2 f2) : k = k2 ∧ n = n2 ∧ s = s2 ∧ o = o2 ∧ d = d2 ∧ v = v2 ∧ a = a2 ∧ b = b2 ∧ r = r2 ∧ e = e2 ∧ f = f2 := by
  simp only [exCells, List.cons.injEq, Value.int.injEq, Value.string.injEq, true_and, and_true] at h
  obtain ⟨h1, h2, h3, h4, h5, h6, h7, h8, h9, h10, h11⟩ := h
  exact ⟨h1, h2, cbs_inj h3, cbs_inj h4, h5, h6, h7, h8, h9, h10, h11⟩
theorem kn_cells {w : World} {bl off : Nat} {q : Option Addr} {qc : Nat} (h : ∀ (i : Nat) (v : Value), (exCells 4 0 [97] [] 0 (.slice q 0 qc) 0 0 0 0 0)[i]? = some v → w.cell? ⟨bl, off + 0 * 11 + i, none⟩ = some v) : w.cell? ⟨bl, off, none⟩ = some (.int .i64 4) ∧ w.cell? ⟨bl, off + 1, none⟩ = some (.int .i64 0) ∧ w.cell? ⟨bl, off + 2, none⟩ = some (.string (cbs [97])) ∧ w.cell? ⟨bl, off + 3, none⟩ = some (.string (cbs [])) ∧ w.cell? ⟨bl, off + 4, none⟩ = some (.int .i64 0) ∧ w.cell? ⟨bl, off + 5, none⟩ = some (.slice q 0 qc) ∧ w.cell? ⟨bl, off + 6, none⟩ = some (.int .i64 0) ∧ w.cell? ⟨bl, off + 7, none⟩ = some (.int .i64 0) ∧ w.cell? ⟨bl, off + 8, none⟩ = some (.int .i64 0) ∧ w.cell? ⟨bl, off + 9, none⟩ = some (.int .i64 0) ∧ w.cell? ⟨bl, off + 10, none⟩ = some (.int .i64 0) := by
  have := eleven_of h
  simpa using this
theorem kn_hold {w : World} {ae bo bl off c : Nat} {q : Option Addr} {qc : Nat} (hE : w.heap[ae]? = some (.cells #[.int .i64 14, .int .i64 0, .string (cbs []), .string (cbs []), .int .i64 0, .slice (some ⟨bl, off, none⟩) 2 c, .int .i64 2, .int .i64 0, .int .i64 0, .int .i64 0, .int .i64 0] 39 (0, 0))) (hF : w.heap[ae + 1]? = some (.cells #[.int .i64 0, .int .i64 0] 25 (0, 0))) (hO : w.heap[bo]? = some (.cells #[.string (cbs [97]), .int .i64 0] 32 (0, 0))) (hG : w.heap[bo + 1]? = some (.cells #[.int .i64 0, .int .i64 0] 25 (0, 0)))
    (hK : w.cell? ⟨bl, off, none⟩ = some (.int .i64 4) ∧ w.cell? ⟨bl, off + 1, none⟩ = some (.int .i64 0) ∧ w.cell? ⟨bl, off + 2, none⟩ = some (.string (cbs [97])) ∧ w.cell? ⟨bl, off + 3, none⟩ = some (.string (cbs [])) ∧ w.cell? ⟨bl, off + 4, none⟩ = some (.int .i64 0) ∧ w.cell? ⟨bl, off + 5, none⟩ = some (.slice q 0 qc) ∧ w.cell? ⟨bl, off + 6, none⟩ = some (.int .i64 0) ∧ w.cell? ⟨bl, off + 7, none⟩ = some (.int .i64 0) ∧ w.cell? ⟨bl, off + 8, none⟩ = some (.int .i64 0) ∧ w.cell? ⟨bl, off + 9, none⟩ = some (.int .i64 0) ∧ w.cell? ⟨bl, off + 10, none⟩ = some (.int .i64 0)) (hK1 : w.cell? ⟨bl, off + 11, none⟩ = some (.int .i64 16)) : w.cell? ⟨ae, 0, none⟩ = some (.int .i64 14) ∧ w.cell? ⟨ae, 1, none⟩ = some (.int .i64 0) ∧ w.cell? ⟨ae, 2, none⟩ = some (.string (cbs [])) ∧ w.cell? ⟨ae, 3, none⟩ = some (.string (cbs [])) ∧ w.cell? ⟨ae, 4, none⟩ = some (.int .i64 0) ∧ w.cell? ⟨ae, 5, none⟩ = some (.slice (some ⟨bl, off, none⟩) 2 c) ∧ w.cell? ⟨ae, 6, none⟩ = some (.int .i64 2) ∧ w.cell? ⟨ae, 7, none⟩ = some (.int .i64 0) ∧ w.cell? ⟨ae, 8, none⟩ = some (.int .i64 0) ∧ w.cell? ⟨ae, 9, none⟩ = some (.int .i64 0) ∧ w.cell? ⟨ae, 10, none⟩ = some (.int .i64 0) ∧ w.cell? ⟨ae + 1, 0, none⟩ = some (.int .i64 0) ∧ w.cell? ⟨bo + 1, 0, none⟩ = some (.int .i64 0) ∧ w.cell? ⟨bo, 0, none⟩ = some (.string (cbs [97])) ∧ w.cell? ⟨bl, off, none⟩ = some (.int .i64 4) ∧ w.cell? ⟨bl, off + 1, none⟩ = some (.int .i64 0) ∧ w.cell? ⟨bl, off + 2, none⟩ = some (.string (cbs [97])) ∧ w.cell? ⟨bl, off + 3, none⟩ = some (.string (cbs [])) ∧ w.cell? ⟨bl, off + 4, none⟩ = some (.int .i64 0) ∧ w.cell? ⟨bl, off + 5, none⟩ = some (.slice q 0 qc) ∧ w.cell? ⟨bl, off + 6, none⟩ = some (.int .i64 0) ∧ w.cell? ⟨bl, off + 7, none⟩ = some (.int .i64 0) ∧ w.cell? ⟨bl, off + 8, none⟩ = some (.int .i64 0) ∧ w.cell? ⟨bl, off + 9, none⟩ = some (.int .i64 0) ∧ w.cell? ⟨bl, off + 10, none⟩ = some (.int .i64 0) ∧ w.cell? ⟨bl, off + 11, none⟩ = some (.int .i64 16) := by
  obtain ⟨⟨e0, e1, e2, e3, e4, e5, e6, e7, e8, e9, eX⟩, -⟩ := hen hE
  obtain ⟨k0, k1, k2, k3, k4, k5, k6, k7, k8, k9, kX⟩ := hK
  exact ⟨e0, e1, e2, e3, e4, e5, e6, e7, e8, e9, eX, (duo hF).1.1, (duo hG).1.1, (duo hO).1.1, k0, k1, k2, k3, k4, k5, k6, k7, k8, k9, kX, hK1⟩
theorem kn_go {w w' : World} {ae bo bl off c : Nat} {q : Option Addr} {qc : Nat} (h : w.cell? ⟨ae, 0, none⟩ = some (.int .i64 14) ∧ w.cell? ⟨ae, 1, none⟩ = some (.int .i64 0) ∧ w.cell? ⟨ae, 2, none⟩ = some (.string (cbs [])) ∧ w.cell? ⟨ae, 3, none⟩ = some (.string (cbs [])) ∧ w.cell? ⟨ae, 4, none⟩ = some (.int .i64 0) ∧ w.cell? ⟨ae, 5, none⟩ = some (.slice (some ⟨bl, off, none⟩) 2 c) ∧ w.cell? ⟨ae, 6, none⟩ = some (.int .i64 2) ∧ w.cell? ⟨ae, 7, none⟩ = some (.int .i64 0) ∧ w.cell? ⟨ae, 8, none⟩ = some (.int .i64 0) ∧ w.cell? ⟨ae, 9, none⟩ = some (.int .i64 0) ∧ w.cell? ⟨ae, 10, none⟩ = some (.int .i64 0) ∧ w.cell? ⟨ae + 1, 0, none⟩ = some (.int .i64 0) ∧ w.cell? ⟨bo + 1, 0, none⟩ = some (.int .i64 0) ∧ w.cell? ⟨bo, 0, none⟩ = some (.string (cbs [97])) ∧ w.cell? ⟨bl, off, none⟩ = some (.int .i64 4) ∧ w.cell? ⟨bl, off + 1, none⟩ = some (.int .i64 0) ∧ w.cell? ⟨bl, off + 2, none⟩ = some (.string (cbs [97])) ∧ w.cell? ⟨bl, off + 3, none⟩ = some (.string (cbs [])) ∧ w.cell? ⟨bl, off + 4, none⟩ = some (.int .i64 0) ∧ w.cell? ⟨bl, off + 5, none⟩ = some (.slice q 0 qc) ∧ w.cell? ⟨bl, off + 6, none⟩ = some (.int .i64 0) ∧ w.cell? ⟨bl, off + 7, none⟩ = some (.int .i64 0) ∧ w.cell? ⟨bl, off + 8, none⟩ = some (.int .i64 0) ∧ w.cell? ⟨bl, off + 9, none⟩ = some (.int .i64 0) ∧ w.cell? ⟨bl, off + 10, none⟩ = some (.int .i64 0) ∧ w.cell? ⟨bl, off + 11, none⟩ = some (.int .i64 16)) (hb : Below w.heap.size w w') (h1 : ae < w.heap.size) (h2 : ae + 1 < w.heap.size) (h3 : bo < w.heap.size) (h4 : bo + 1 < w.heap.size) (h5 : bl < w.heap.size) : w'.cell? ⟨ae, 0, none⟩ = some (.int .i64 14) ∧ w'.cell? ⟨ae, 1, none⟩ = some (.int .i64 0) ∧ w'.cell? ⟨ae, 2, none⟩ = some (.string (cbs [])) ∧ w'.cell? ⟨ae, 3, none⟩ = some (.string (cbs [])) ∧ w'.cell? ⟨ae, 4, none⟩ = some (.int .i64 0) ∧ w'.cell? ⟨ae, 5, none⟩ = some (.slice (some ⟨bl, off, none⟩) 2 c) ∧ w'.cell? ⟨ae, 6, none⟩ = some (.int .i64 2) ∧ w'.cell? ⟨ae, 7, none⟩ = some (.int .i64 0) ∧ w'.cell? ⟨ae, 8, none⟩ = some (.int .i64 0) ∧ w'.cell? ⟨ae, 9, none⟩ = some (.int .i64 0) ∧ w'.cell? ⟨ae, 10, none⟩ = some (.int .i64 0) ∧ w'.cell? ⟨ae + 1, 0, none⟩ = some (.int .i64 0) ∧ w'.cell? ⟨bo + 1, 0, none⟩ = some (.int .i64 0) ∧ w'.cell? ⟨bo, 0, none⟩ = some (.string (cbs [97])) ∧ w'.cell? ⟨bl, off, none⟩ = some (.int .i64 4) ∧ w'.cell? ⟨bl, off + 1, none⟩ = some (.int .i64 0) ∧ w'.cell? ⟨bl, off + 2, none⟩ = some (.string (cbs [97])) ∧ w'.cell? ⟨bl, off + 3, none⟩ = some (.string (cbs [])) ∧ w'.cell? ⟨bl, off + 4, none⟩ = some (.int .i64 0) ∧ w'.cell? ⟨bl, off + 5, none⟩ = some (.slice q 0 qc) ∧ w'.cell? ⟨bl, off + 6, none⟩ = some (.int .i64 0) ∧ w'.cell? ⟨bl, off + 7, none⟩ = some (.int .i64 0) ∧ w'.cell? ⟨bl, off + 8, none⟩ = some (.int .i64 0) ∧ w'.cell? ⟨bl, off + 9, none⟩ = some (.int .i64 0) ∧ w'.cell? ⟨bl, off + 10, none⟩ = some (.int .i64 0) ∧ w'.cell? ⟨bl, off + 11, none⟩ = some (.int .i64 16) := by
  obtain ⟨e0, e1, e2, e3, e4, e5, e6, e7, e8, e9, eX, f0, g0, o0, k0, k1, k2, k3, k4, k5, k6, k7, k8, k9, kX, m0⟩ := h
  exact ⟨(hb.cell (p := ⟨ae, 0, none⟩) h1).trans e0, (hb.cell (p := ⟨ae, 1, none⟩) h1).trans e1, (hb.cell (p := ⟨ae, 2, none⟩) h1).trans e2, (hb.cell (p := ⟨ae, 3, none⟩) h1).trans e3, (hb.cell (p := ⟨ae, 4, none⟩) h1).trans e4, (hb.cell (p := ⟨ae, 5, none⟩) h1).trans e5, (hb.cell (p := ⟨ae, 6, none⟩) h1).trans e6, (hb.cell (p := ⟨ae, 7, none⟩) h1).trans e7, (hb.cell (p := ⟨ae, 8, none⟩) h1).trans e8, (hb.cell (p := ⟨ae, 9, none⟩) h1).trans e9, (hb.cell (p := ⟨ae, 10, none⟩) h1).trans eX, (hb.cell (p := ⟨ae + 1, 0, none⟩) h2).trans f0, (hb.cell (p := ⟨bo + 1, 0, none⟩) h4).trans g0, (hb.cell (p := ⟨bo, 0, none⟩) h3).trans o0, (hb.cell (p := ⟨bl, off, none⟩) h5).trans k0, (hb.cell (p := ⟨bl, off + 1, none⟩) h5).trans k1, (hb.cell (p := ⟨bl, off + 2, none⟩) h5).trans k2, (hb.cell (p := ⟨bl, off + 3, none⟩) h5).trans k3, (hb.cell (p := ⟨bl, off + 4, none⟩) h5).trans k4, (hb.cell (p := ⟨bl, off + 5, none⟩) h5).trans k5, (hb.cell (p := ⟨bl, off + 6, none⟩) h5).trans k6, (hb.cell (p := ⟨bl, off + 7, none⟩) h5).trans k7, (hb.cell (p := ⟨bl, off + 8, none⟩) h5).trans k8, (hb.cell (p := ⟨bl, off + 9, none⟩) h5).trans k9, (hb.cell (p := ⟨bl, off + 10, none⟩) h5).trans kX, (hb.cell (p := ⟨bl, off + 11, none⟩) h5).trans m0⟩
theorem known_text : ((⟨#[97, 32, 43, 32, 98, 32, 42, 32, 99]⟩ : ByteArray).data.toList) = [97, 32, 43, 32, 98, 32, 42, 32, 99] := rfl
theorem Is.kn {w : World} {B : Nat} {vs : List Value} (h : Is w B knE vs) : ∃ bl off c q qc, vs = exCells 14 0 [] [] 0 (.slice (some ⟨bl, off, none⟩) 2 c) 2 0 0 0 0 ∧ bl < w.heap.size ∧
    (∀ (i : Nat) (v : Value), (exCells 4 0 [97] [] 0 (.slice q 0 qc) 0 0 0 0 0)[i]? = some v → w.cell? ⟨bl, off + 0 * 11 + i, none⟩ = some v) ∧ Is w B knA (exCells 4 0 [97] [] 0 (.slice q 0 qc) 0 0 0 0 0) ∧ w.cell? ⟨bl, off + 11, none⟩ = some (.int .i64 16) := by
  obtain ⟨p, c, hv, hk⟩ := h.kids
  rcases hk with hk | ⟨bl, off, rfl, hbl, hB, ha⟩
  · cases hk
  · obtain ⟨vs0, hi0, hc0⟩ := At.get _ off 0 knA ha rfl
    obtain ⟨vs1, hi1, hc1⟩ := At.get _ off 1 knM ha rfl
    obtain ⟨q, qc, rfl, -⟩ := hi0.kids
    obtain ⟨q1, qc1, rfl, -⟩ := hi1.kids
    exact ⟨bl, off, c, q, qc, hv, hbl, hc0, hi0, hc1 0 _ rfl⟩

set_option maxRecDepth 8000 in
set_option maxHeartbeats 8000000 in
theorem known_any (w : World) (hops : OpsIn w) :
    Calls Tryd.prog 11 #[] w fun e w' => e = .returned (.bool true) ∧ Below w.heap.size w w' := by
  obtain ⟨gt, gfr, hg⟩ := hops
  have HG := Lib.hid hg
  have hlt := heap_lt' hg
  clear hg
  go_enter Tryd.func11, Tryd.ntmps11
  go_wp2_with fail
  refine (tokens_are ⟨#[97, 32, 43, 32, 98, 32, 42, 32, 99]⟩ (by decide) knUs 0 0 kn_toks w).mono ?_
  rintro e w1 ⟨A, cA, rfl, hl1, hb1⟩
  have HT := Lib.hid ((toks_of (c := cA) hl1 kn_short).below ((Below.refl _ _).alloc (Nat.le_refl _) (.cells #[.int .i64 0, .int .i64 0] 25)))
  have HB1 := Lib.hid (below_seq hb1 ((Below.refl _ _).alloc (Nat.le_refl _) (.cells #[.int .i64 0, .int .i64 0] 25)) hb1.size)
  clear hl1 hb1
  go_wp2_with fail
  refine (parse_any _ _ _ (knUs.map toRT) 0 0 HT.out ⟨gt, gfr, (HB1.out.block _ hlt).trans HG.out⟩ 40 (by decide) _ kn_parse).mono ?_
  rintro e w2 ⟨xk, xn, xs, xo, xd, xp, xl, xc, xa, xb, xr, xe, xf, rfl, hi, hb2⟩
  have HI := Lib.hid hi
  obtain ⟨bl, off, c, q, qc, hv, hbl, hc0, hi0, hc1⟩ := hi.kn
  obtain ⟨rfl, rfl, rfl, rfl, rfl, hsl, rfl, rfl, rfl, rfl, rfl⟩ := exCells_inj hv
  have hs2 : xp = some ⟨bl, off, none⟩ ∧ xl = 2 ∧ xc = c := by simpa using hsl
  obtain ⟨rfl, rfl, rfl⟩ : some ⟨bl, off, none⟩ = xp ∧ 2 = xl ∧ c = xc := ⟨hs2.1.symm, hs2.2.1.symm, hs2.2.2.symm⟩
  clear hs2
  have HC0 := Lib.hid hc0
  have HI0 := Lib.hid hi0
  have HC1 := Lib.hid hc1
  have HBL := Lib.hid hbl
  have HB2 := Lib.hid hb2
  clear hi hv hbl hc0 hi0 hc1 hsl hb2
  have hb3 : Below w2.heap.size w2 ((w2.alloc (.cells #[.int .i64 14, .int .i64 0, .string (cbs []), .string (cbs []), .int .i64 0, .slice (some ⟨bl, off, none⟩) 2 c, .int .i64 2, .int .i64 0, .int .i64 0, .int .i64 0, .int .i64 0] 39)).alloc (.cells #[.int .i64 0, .int .i64 0] 25)) := ((Below.refl _ _).alloc (Nat.le_refl _) _).alloc (by rw [size_alloc]; omega) _
  have HB3 := Lib.hid hb3
  have hof := of_any ((w2.alloc (.cells #[.int .i64 14, .int .i64 0, .string (cbs []), .string (cbs []), .int .i64 0, .slice (some ⟨bl, off, none⟩) 2 c, .int .i64 2, .int .i64 0, .int .i64 0, .int .i64 0, .int .i64 0] 39)).alloc (.cells #[.int .i64 0, .int .i64 0] 25)) _ _ (knUs.map toRT) 0 ((HT.out.below HB2.out).below hb3)
  rw [kn_of] at hof
  have HOF := Lib.hid hof
  clear hof hb3
  dsimp only
  go_wp2_with fail
  refine (HOF.out).mono ?_
  rintro e w3 ⟨rfl, hb4⟩
  have HB4 := Lib.hid hb4
  have hE3 : w3.heap[w2.heap.size]? = some (.cells #[.int .i64 14, .int .i64 0, .string (cbs []), .string (cbs []), .int .i64 0, .slice (some ⟨bl, off, none⟩) 2 c, .int .i64 2, .int .i64 0, .int .i64 0, .int .i64 0, .int .i64 0] 39 (0, 0)) := (hb4.block _ (by simp only [size_alloc]; omega)).trans (alloc_box _ (heap_alloc_new w2 _))
  have hF3 : w3.heap[w2.heap.size + 1]? = some (.cells #[.int .i64 0, .int .i64 0] 25 (0, 0)) := (hb4.block _ (by simp only [size_alloc]; omega)).trans (by have := heap_alloc_new (w2.alloc (.cells #[.int .i64 14, .int .i64 0, .string (cbs []), .string (cbs []), .int .i64 0, .slice (some ⟨bl, off, none⟩) 2 c, .int .i64 2, .int .i64 0, .int .i64 0, .int .i64 0, .int .i64 0] 39)) (.cells #[.int .i64 0, .int .i64 0] 25); rw [size_alloc] at this; exact this)
  have HE3 := Lib.hid hE3
  have HF3 := Lib.hid hF3
  clear hb4 hE3 hF3 HOF
  dsimp only
  go_wp2_with fail
  obtain ⟨wc, hwc⟩ : ∃ wc, wc = (w3.alloc (.cells #[.string (cbs [97]), .int .i64 0] 32)).alloc (.cells #[.int .i64 0, .int .i64 0] 25) := ⟨_, rfl⟩
  have hb5 : Below w3.heap.size w3 wc := by rw [hwc]; exact ((Below.refl _ _).alloc (Nat.le_refl _) _).alloc (by rw [size_alloc]; omega) _
  have hO : wc.heap[w3.heap.size]? = some (.cells #[.string (cbs [97]), .int .i64 0] 32 (0, 0)) := by rw [hwc]; exact alloc_box _ (heap_alloc_new w3 _)
  have hG : wc.heap[w3.heap.size + 1]? = some (.cells #[.int .i64 0, .int .i64 0] 25 (0, 0)) := by rw [hwc]; have := heap_alloc_new (w3.alloc (.cells #[.string (cbs [97]), .int .i64 0] 32)) (.cells #[.int .i64 0, .int .i64 0] 25); rw [size_alloc] at this; exact this
  try rw [← hwc]
  clear hwc
  have hE := (hb5.block _ (heap_lt' HE3.out)).trans HE3.out
  have hF := (hb5.block _ (heap_lt' HF3.out)).trans HF3.out
  have h25 : Below w2.heap.size w2 wc := below_seq (below_seq HB3.out HB4.out HB3.out.size) hb5 (below_seq HB3.out HB4.out HB3.out.size).size
  have hK := kn_cells (fun i v hh => (h25.cell (p := ⟨bl, _, none⟩) HBL.out).trans (HC0.out i v hh))
  have hK1 := (h25.cell (p := ⟨bl, off + 11, none⟩) HBL.out).trans HC1.out
  have hlb : bl < wc.heap.size := Nat.lt_of_lt_of_le HBL.out h25.size
  have HIE := Lib.hid (HI.out.below h25)
  have HIA := Lib.hid (HI0.out.below h25)
  have HS0 := Lib.hid (kn_hold hE hF hO hG hK hK1)
  have HLT := Lib.hid (show w2.heap.size < wc.heap.size ∧ w2.heap.size + 1 < wc.heap.size ∧ w3.heap.size < wc.heap.size ∧ w3.heap.size + 1 < wc.heap.size ∧ bl < wc.heap.size from ⟨heap_lt' hE, heap_lt' hF, heap_lt' hO, heap_lt' hG, hlb⟩)
  have HW : Hid (Below w.heap.size w wc) := below_seq (below_seq HB1.out HB2.out HB1.out.size) (below_seq (below_seq HB3.out HB4.out HB3.out.size) hb5 (below_seq HB3.out HB4.out HB3.out.size).size) (below_seq HB1.out HB2.out HB1.out.size).size
  have HSA := Lib.hid (fun w1 (hb : Below wc.heap.size wc w1) => same_any w1 knE knE (HIE.out.below hb) (HIE.out.below hb) kn_fit)
  have HSB := Lib.hid (fun w1 (hb : Below wc.heap.size wc w1) => same_any w1 knE knA (HIE.out.below hb) (HIA.out.below hb) kn_fit)
  clear hE hF hO hG hK hK1 hlb hb5 h25 HT HG hlt HE3 HF3 HB1 HB2 HB3 HB4 HC0 HC1 HI0 HBL HI
  obtain ⟨e0, e1, e2, e3, e4, e5, e6, e7, e8, e9, eX, f0, g0, o0, k0, k1, k2, k3, k4, k5, k6, k7, k8, k9, kX, m0⟩ := HS0.out
  have hcmp : ((cbs [97]).toList == [97]) = true := by rw [cbs_list]; rfl
  have HD1 : Hid (Below wc.heap.size wc wc.drew) := (Below.refl _ _).drew
  go_region_held3 (fun w' => w'.cell? ⟨w2.heap.size, 0, none⟩ = some (.int .i64 14) ∧ w'.cell? ⟨w2.heap.size, 1, none⟩ = some (.int .i64 0) ∧ w'.cell? ⟨w2.heap.size, 2, none⟩ = some (.string (cbs [])) ∧ w'.cell? ⟨w2.heap.size, 3, none⟩ = some (.string (cbs [])) ∧ w'.cell? ⟨w2.heap.size, 4, none⟩ = some (.int .i64 0) ∧ w'.cell? ⟨w2.heap.size, 5, none⟩ = some (.slice (some ⟨bl, off, none⟩) 2 c) ∧ w'.cell? ⟨w2.heap.size, 6, none⟩ = some (.int .i64 2) ∧ w'.cell? ⟨w2.heap.size, 7, none⟩ = some (.int .i64 0) ∧ w'.cell? ⟨w2.heap.size, 8, none⟩ = some (.int .i64 0) ∧ w'.cell? ⟨w2.heap.size, 9, none⟩ = some (.int .i64 0) ∧ w'.cell? ⟨w2.heap.size, 10, none⟩ = some (.int .i64 0) ∧ w'.cell? ⟨w2.heap.size + 1, 0, none⟩ = some (.int .i64 0) ∧ w'.cell? ⟨w3.heap.size + 1, 0, none⟩ = some (.int .i64 0) ∧ w'.cell? ⟨w3.heap.size, 0, none⟩ = some (.string (cbs [97])) ∧ w'.cell? ⟨bl, off, none⟩ = some (.int .i64 4) ∧ w'.cell? ⟨bl, off + 1, none⟩ = some (.int .i64 0) ∧ w'.cell? ⟨bl, off + 2, none⟩ = some (.string (cbs [97])) ∧ w'.cell? ⟨bl, off + 3, none⟩ = some (.string (cbs [])) ∧ w'.cell? ⟨bl, off + 4, none⟩ = some (.int .i64 0) ∧ w'.cell? ⟨bl, off + 5, none⟩ = some (.slice q 0 qc) ∧ w'.cell? ⟨bl, off + 6, none⟩ = some (.int .i64 0) ∧ w'.cell? ⟨bl, off + 7, none⟩ = some (.int .i64 0) ∧ w'.cell? ⟨bl, off + 8, none⟩ = some (.int .i64 0) ∧ w'.cell? ⟨bl, off + 9, none⟩ = some (.int .i64 0) ∧ w'.cell? ⟨bl, off + 10, none⟩ = some (.int .i64 0) ∧ w'.cell? ⟨bl, off + 11, none⟩ = some (.int .i64 16)) (first | exact HS0.out | exact HS4.out | exact HS5.out) (first
    | (go_at_call 18; (refine Calls.mono (HSA.out _ HD1.out) ?_); rintro e w4 ⟨rfl, hb4⟩; have HB4 := Lib.hid (below_seq HD1.out hb4 HD1.out.size); have HS4 := Lib.hid (kn_go HS0.out HB4.out HLT.out.1 HLT.out.2.1 HLT.out.2.2.1 HLT.out.2.2.2.1 HLT.out.2.2.2.2); rw [kn_same1]; clear hb4 HSA HS0)
    | (go_at_call 18; (refine Calls.mono (HSB.out _ HB4.out) ?_); rintro e w5 ⟨rfl, hb5⟩; have HB5 := Lib.hid (below_seq HB4.out hb5 HB4.out.size); have HS5 := Lib.hid (kn_go HS4.out (below_seq (Below.refl _ _) hb5 (Nat.le_refl _)) (Nat.lt_of_lt_of_le HLT.out.1 HB4.out.size) (Nat.lt_of_lt_of_le HLT.out.2.1 HB4.out.size) (Nat.lt_of_lt_of_le HLT.out.2.2.1 HB4.out.size) (Nat.lt_of_lt_of_le HLT.out.2.2.2.1 HB4.out.size) (Nat.lt_of_lt_of_le HLT.out.2.2.2.2 HB4.out.size)); rw [kn_same2]; clear hb5 HSB HS4))
  go_wp2_with fail
  go_ret
  exact ⟨rfl, below_seq HW.out HB5.out HW.out.size⟩
end Go.Proofs.YtldhgoblimfhbaaDoor
