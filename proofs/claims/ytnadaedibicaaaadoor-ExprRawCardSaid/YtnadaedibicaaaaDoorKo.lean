/-
  What every law of chapter 3 asks besides: one text, read, and compared with itself.
-/
import Derived.Test.YtnadaedibicaaaaDoorRp
import Derived.Test.YtnadaedibicaaaaDoorSn
import Derived.Test.YtnadaedibicaaaaDoorRefTok
import Derived.Deep.RegionHeld3
namespace Go.Proofs.YtnadaedibicaaaaDoor
open Go.RowKit
open Px (RT tokAt)
open Pe

def toRT (t : Ln.Lx.Tk) : RT := ⟨t.kind, t.text, t.num, t.at_⟩
theorem cells_at : ∀ (us : List Ln.Lx.Tk) (j : Nat) (t : Ln.Lx.Tk), us[j]? = some t → (Ln.cellsOf us)[j * 4]? = some (.int .i64 t.kind) ∧ (Ln.cellsOf us)[j * 4 + 1]? = some (.string (cbs t.text)) ∧ (Ln.cellsOf us)[j * 4 + 2]? = some (.int .i64 t.num) ∧ (Ln.cellsOf us)[j * 4 + 3]? = some (.int .i64 t.at_)
  | [], j, t, h => by simp at h
  | u :: us, 0, t, h => by
    simp at h
    subst h
    exact ⟨rfl, rfl, rfl, rfl⟩
  | u :: us, j + 1, t, h => by
    have := cells_at us j t (by simpa using h)
    have hl : (Ln.tokCells u).length = 4 := rfl
    refine ⟨?_, ?_, ?_, ?_⟩ <;> rw [Ln.cellsOf, List.flatMap_cons]
    · rw [List.getElem?_append_right (by omega), hl, show (j + 1) * 4 - 4 = j * 4 from by omega]; exact this.1
    · rw [List.getElem?_append_right (by omega), hl, show (j + 1) * 4 + 1 - 4 = j * 4 + 1 from by omega]; exact this.2.1
    · rw [List.getElem?_append_right (by omega), hl, show (j + 1) * 4 + 2 - 4 = j * 4 + 2 from by omega]; exact this.2.2.1
    · rw [List.getElem?_append_right (by omega), hl, show (j + 1) * 4 + 3 - 4 = j * 4 + 3 from by omega]; exact this.2.2.2
theorem toks_of {w : World} {A : Option Addr} {c : Nat} {us : List Ln.Lx.Tk} (h : Ln.Lies w w.heap.size A (Ln.cellsOf us)) (hs : ∀ t ∈ us, t.text.length ≤ 281474976710656) : Toks w w.heap.size (.slice A us.length c) (us.map toRT) := by
  refine ⟨⟨A, us.length, c, rfl, by simp, ?_⟩, fun t ht => ?_⟩
  · cases us with
    | nil => exact .inl rfl
    | cons u us =>
      obtain ⟨g, hA, hg, hc⟩ := h (by simp [Ln.cellsOf, Ln.tokCells])
      refine .inr ⟨g, 0, hA, hg, Nat.ne_of_lt hg, fun j t ht => ?_⟩
      rw [List.getElem?_map, Option.map_eq_some_iff] at ht
      obtain ⟨t', ht', rfl⟩ := ht
      obtain ⟨h0, h1, h2, h3⟩ := cells_at (u :: us) j t' ht'
      rw [show 0 + j * 4 = j * 4 by omega]
      exact ⟨hc _ _ h0, hc _ _ h1, hc _ _ h2, hc _ _ h3⟩
  · obtain ⟨t', ht', rfl⟩ := List.mem_map.1 ht
    exact hs t' ht'
/-- Tokens of a text, by what they are. -/
theorem tokens_are (s : ByteArray) (hs : s.size ≤ maxLen) (us : List Ln.Lx.Tk) (E K : Nat) (h : Ln.Lx.toks s.data.toList = (us, E, K)) (w : World) :
    Calls Tryd.prog 8 #[.string s] w fun e w' => ∃ (A : Option Addr) (c : Nat), e = .returned (.tuple #[.slice A us.length c, .agg #[.int .i64 E, .int .i64 K]]) ∧ Ln.Lies w' w'.heap.size A (Ln.cellsOf us) ∧ Below w.heap.size w w' := by
  have := Ln.refTokens_any s hs w
  unfold Ln.TokRes at this
  rw [h] at this
  exact this

def knUs : List Ln.Lx.Tk := [⟨1, [97], 0, 0⟩, ⟨4, [43], 0, 2⟩, ⟨1, [98], 0, 4⟩, ⟨4, [42], 0, 6⟩, ⟨1, [99], 0, 8⟩, ⟨0, [], 0, 9⟩]
def knA : Ex := Ex.of 4 0 [97] [] 0 [] 0
def knM : Ex := Ex.of 16 0 [] [] 0 [Ex.of 4 0 [98] [] 0 [] 4, Ex.of 4 0 [99] [] 0 [] 8] 6
def knE : Ex := Ex.of 14 0 [] [] 0 [knA, knM] 2
set_option maxRecDepth 100000 in
theorem kn_toks : Ln.Lx.toks [97, 32, 43, 32, 98, 32, 42, 32, 99] = (knUs, 0, 0) := by kernel_rfl
set_option maxRecDepth 100000 in
theorem kn_parse : parse (knUs.map toRT) 40 0 0 = some (knE, 5, 0, 0) := by kernel_rfl
set_option maxRecDepth 100000 in
theorem kn_of : ofAns (knUs.map toRT) 0 = ([97], 0, 1, 0, 0) := by kernel_rfl
theorem kn_same1 : sameE knE knE = true := by kernel_rfl
theorem kn_same2 : sameE knE knA = false := by kernel_rfl
theorem kn_fit : fitE knE = true := by kernel_rfl
theorem kn_short : ∀ t ∈ knUs, t.text.length ≤ 281474976710656 := by decide

theorem cbs_inj {a b : List UInt8} (h : cbs a = cbs b) : a = b := by rw [← cbs_list a, ← cbs_list b, h]
theorem exCells_inj {k n : Int} {s o : List UInt8} {d : Int} {v : Value} {a b r e f : Int} {k2 n2 : Int} {s2 o2 : List UInt8} {d2 : Int} {v2 : Value} {a2 b2 r2 e2 f2 : Int} (h : exCells k n s o d v a b r e f = exCells k2 n2 s2 o2 d2 v2 a2 b2 r2 e2 f2) : k = k2 ∧ n = n2 ∧ s = s2 ∧ o = o2 ∧ d = d2 ∧ v = v2 ∧ a = a2 ∧ b = b2 ∧ r = r2 ∧ e = e2 ∧ f = f2 := by
  simp only [exCells, List.cons.injEq, Value.int.injEq, Value.string.injEq, true_and, and_true] at h
  obtain ⟨h1, h2, h3, h4, h5, h6, h7, h8, h9, h10, h11⟩ := h
  exact ⟨h1, h2, cbs_inj h3, cbs_inj h4, h5, h6, h7, h8, h9, h10, h11⟩
theorem kn_cells {w : World} {bl off : Nat} {q : Option Addr} {qc : Nat} (h : ∀ (i : Nat) (v : Value), (exCells 4 0 [97] [] 0 (.slice q 0 qc) 0 0 0 0 0)[i]? = some v → w.cell? ⟨bl, off + 0 * 11 + i, none⟩ = some v) : w.cell? ⟨bl, off, none⟩ = some (.int .i64 4) ∧ w.cell? ⟨bl, off + 1, none⟩ = some (.int .i64 0) ∧ w.cell? ⟨bl, off + 2, none⟩ = some (.string (cbs [97])) ∧ w.cell? ⟨bl, off + 3, none⟩ = some (.string (cbs [])) ∧ w.cell? ⟨bl, off + 4, none⟩ = some (.int .i64 0) ∧ w.cell? ⟨bl, off + 5, none⟩ = some (.slice q 0 qc) ∧ w.cell? ⟨bl, off + 6, none⟩ = some (.int .i64 0) ∧ w.cell? ⟨bl, off + 7, none⟩ = some (.int .i64 0) ∧ w.cell? ⟨bl, off + 8, none⟩ = some (.int .i64 0) ∧ w.cell? ⟨bl, off + 9, none⟩ = some (.int .i64 0) ∧ w.cell? ⟨bl, off + 10, none⟩ = some (.int .i64 0) := by
  have := eleven_of h
  simpa using this
theorem kn_hold {w : World} {ae bo bl off c : Nat} {q : Option Addr} {qc : Nat} (hE : w.heap[ae]? = some (.cells #[.int .i64 14, .int .i64 0, .string (cbs []), .string (cbs []), .int .i64 0, .slice (some ⟨bl, off, none⟩) 2 c, .int .i64 2, .int .i64 0, .int .i64 0, .int .i64 0, .int .i64 0] 39 (0, 0))) (hF : w.heap[ae + 1]? = some (.cells #[.int .i64 0, .int .i64 0] 25 (0, 0))) (hO : w.heap[bo]? = some (.cells #[.string (cbs [97]), .int .i64 0] 32 (0, 0))) (hG : w.heap[bo + 1]? = some (.cells #[.int .i64 0, .int .i64 0] 25 (0, 0)))
    (hK : w.cell? ⟨bl, off, none⟩ = some (.int .i64 4) ∧ w.cell? ⟨bl, off + 1, none⟩ = some (.int .i64 0) ∧ w.cell? ⟨bl, off + 2, none⟩ = some (.string (cbs [97])) ∧ w.cell? ⟨bl, off + 3, none⟩ = some (.string (cbs [])) ∧ w.cell? ⟨bl, off + 4, none⟩ = some (.int .i64 0) ∧ w.cell? ⟨bl, off + 5, none⟩ = some (.slice q 0 qc) ∧ w.cell? ⟨bl, off + 6, none⟩ = some (.int .i64 0) ∧ w.cell? ⟨bl, off + 7, none⟩ = some (.int .i64 0) ∧ w.cell? ⟨bl, off + 8, none⟩ = some (.int .i64 0) ∧ w.cell? ⟨bl, off + 9, none⟩ = some (.int .i64 0) ∧ w.cell? ⟨bl, off + 10, none⟩ = some (.int .i64 0)) (hK1 : w.cell? ⟨bl, off + 11, none⟩ = some (.int .i64 16)) : w.cell? ⟨ae, 0, none⟩ = some (.int .i64 14) ∧ w.cell? ⟨ae, 1, none⟩ = some (.int .i64 0) ∧ w.cell? ⟨ae, 2, none⟩ = some (.string (cbs [])) ∧ w.cell? ⟨ae, 3, none⟩ = some (.string (cbs [])) ∧ w.cell? ⟨ae, 4, none⟩ = some (.int .i64 0) ∧ w.cell? ⟨ae, 5, none⟩ = some (.slice (some ⟨bl, off, none⟩) 2 c) ∧ w.cell? ⟨ae, 6, none⟩ = some (.int .i64 2) ∧ w.cell? ⟨ae, 7, none⟩ = some (.int .i64 0) ∧ w.cell? ⟨ae, 8, none⟩ = some (.int .i64 0) ∧ w.cell? ⟨ae, 9, none⟩ = some (.int .i64 0) ∧ w.cell? ⟨ae, 10, none⟩ = some (.int .i64 0) ∧ w.cell? ⟨ae + 1, 0, none⟩ = some (.int .i64 0) ∧ w.cell? ⟨bo + 1, 0, none⟩ = some (.int .i64 0) ∧ w.cell? ⟨bo, 0, none⟩ = some (.string (cbs [97])) ∧ w.cell? ⟨bl, off, none⟩ = some (.int .i64 4) ∧ w.cell? ⟨bl, off + 1, none⟩ = some (.int .i64 0) ∧ w.cell? ⟨bl, off + 2, none⟩ = some (.string (cbs [97])) ∧ w.cell? ⟨bl, off + 3, none⟩ = some (.string (cbs [])) ∧ w.cell? ⟨bl, off + 4, none⟩ = some (.int .i64 0) ∧ w.cell? ⟨bl, off + 5, none⟩ = some (.slice q 0 qc) ∧ w.cell? ⟨bl, off + 6, none⟩ = some (.int .i64 0) ∧ w.cell? ⟨bl, off + 7, none⟩ = some (.int .i64 0) ∧ w.cell? ⟨bl, off + 8, none⟩ = some (.int .i64 0) ∧ w.cell? ⟨bl, off + 9, none⟩ = some (.int .i64 0) ∧ w.cell? ⟨bl, off + 10, none⟩ = some (.int .i64 0) ∧ w.cell? ⟨bl, off + 11, none⟩ = some (.int .i64 16) := by
  obtain ⟨⟨e0, e1, e2, e3, e4, e5, e6, e7, e8, e9, eX⟩, -⟩ := hen hE
  obtain ⟨k0, k1, k2, k3, k4, k5, k6, k7, k8, k9, kX⟩ := hK
  exact ⟨e0, e1, e2, e3, e4, e5, e6, e7, e8, e9, eX, (duo hF).1.1, (duo hG).1.1, (duo hO).1.1, k0, k1, k2, k3, k4, k5, k6, k7, k8, k9, kX, hK1⟩
theorem kn_go {w w' : World} {ae bo bl off c : Nat} {q : Option Addr} {qc : Nat} (h : w.cell? ⟨ae, 0, none⟩ = some (.int .i64 14) ∧ w.cell? ⟨ae, 1, none⟩ = some (.int .i64 0) ∧ w.cell? ⟨ae, 2, none⟩ = some (.string (cbs [])) ∧ w.cell? ⟨ae, 3, none⟩ = some (.string (cbs [])) ∧ w.cell? ⟨ae, 4, none⟩ = some (.int .i64 0) ∧ w.cell? ⟨ae, 5, none⟩ = some (.slice (some ⟨bl, off, none⟩) 2 c) ∧ w.cell? ⟨ae, 6, none⟩ = some (.int .i64 2) ∧ w.cell? ⟨ae, 7, none⟩ = some (.int .i64 0) ∧ w.cell? ⟨ae, 8, none⟩ = some (.int .i64 0) ∧ w.cell? ⟨ae, 9, none⟩ = some (.int .i64 0) ∧ w.cell? ⟨ae, 10, none⟩ = some (.int .i64 0) ∧ w.cell? ⟨ae + 1, 0, none⟩ = some (.int .i64 0) ∧ w.cell? ⟨bo + 1, 0, none⟩ = some (.int .i64 0) ∧ w.cell? ⟨bo, 0, none⟩ = some (.string (cbs [97])) ∧ w.cell? ⟨bl, off, none⟩ = some (.int .i64 4) ∧ w.cell? ⟨bl, off + 1, none⟩ = some (.int .i64 0) ∧ w.cell? ⟨bl, off + 2, none⟩ = some (.string (cbs [97])) ∧ w.cell? ⟨bl, off + 3, none⟩ = some (.string (cbs [])) ∧ w.cell? ⟨bl, off + 4, none⟩ = some (.int .i64 0) ∧ w.cell? ⟨bl, off + 5, none⟩ = some (.slice q 0 qc) ∧ w.cell? ⟨bl, off + 6, none⟩ = some (.int .i64 0) ∧ w.cell? ⟨bl, off + 7, none⟩ = some (.int .i64 0) ∧ w.cell? ⟨bl, off + 8, none⟩ = some (.int .i64 0) ∧ w.cell? ⟨bl, off + 9, none⟩ = some (.int .i64 0) ∧ w.cell? ⟨bl, off + 10, none⟩ = some (.int .i64 0) ∧ w.cell? ⟨bl, off + 11, none⟩ = some (.int .i64 16)) (hb : Below w.heap.size w w') (h1 : ae < w.heap.size) (h2 : ae + 1 < w.heap.size) (h3 : bo < w.heap.size) (h4 : bo + 1 < w.heap.size) (h5 : bl < w.heap.size) : w'.cell? ⟨ae, 0, none⟩ = some (.int .i64 14) ∧ w'.cell? ⟨ae, 1, none⟩ = some (.int .i64 0) ∧ w'.cell? ⟨ae, 2, none⟩ = some (.string (cbs [])) ∧ w'.cell? ⟨ae, 3, none⟩ = some (.string (cbs [])) ∧ w'.cell? ⟨ae, 4, none⟩ = some (.int .i64 0) ∧ w'.cell? ⟨ae, 5, none⟩ = some (.slice (some ⟨bl, off, none⟩) 2 c) ∧ w'.cell? ⟨ae, 6, none⟩ = some (.int .i64 2) ∧ w'.cell? ⟨ae, 7, none⟩ = some (.int .i64 0) ∧ w'.cell? ⟨ae, 8, none⟩ = some (.int .i64 0) ∧ w'.cell? ⟨ae, 9, none⟩ = some (.int .i64 0) ∧ w'.cell? ⟨ae, 10, none⟩ = some (.int .i64 0) ∧ w'.cell? ⟨ae + 1, 0, none⟩ = some (.int .i64 0) ∧ w'.cell? ⟨bo + 1, 0, none⟩ = some (.int .i64 0) ∧ w'.cell? ⟨bo, 0, none⟩ = some (.string (cbs [97])) ∧ w'.cell? ⟨bl, off, none⟩ = some (.int .i64 4) ∧ w'.cell? ⟨bl, off + 1, none⟩ = some (.int .i64 0) ∧ w'.cell? ⟨bl, off + 2, none⟩ = some (.string (cbs [97])) ∧ w'.cell? ⟨bl, off + 3, none⟩ = some (.string (cbs [])) ∧ w'.cell? ⟨bl, off + 4, none⟩ = some (.int .i64 0) ∧ w'.cell? ⟨bl, off + 5, none⟩ = some (.slice q 0 qc) ∧ w'.cell? ⟨bl, off + 6, none⟩ = some (.int .i64 0) ∧ w'.cell? ⟨bl, off + 7, none⟩ = some (.int .i64 0) ∧ w'.cell? ⟨bl, off + 8, none⟩ = some (.int .i64 0) ∧ w'.cell? ⟨bl, off + 9, none⟩ = some (.int .i64 0) ∧ w'.cell? ⟨bl, off + 10, none⟩ = some (.int .i64 0) ∧ w'.cell? ⟨bl, off + 11, none⟩ = some (.int .i64 16) := by
  obtain ⟨e0, e1, e2, e3, e4, e5, e6, e7, e8, e9, eX, f0, g0, o0, k0, k1, k2, k3, k4, k5, k6, k7, k8, k9, kX, m0⟩ := h
  exact ⟨(hb.cell (p := ⟨ae, 0, none⟩) h1).trans e0, (hb.cell (p := ⟨ae, 1, none⟩) h1).trans e1, (hb.cell (p := ⟨ae, 2, none⟩) h1).trans e2, (hb.cell (p := ⟨ae, 3, none⟩) h1).trans e3, (hb.cell (p := ⟨ae, 4, none⟩) h1).trans e4, (hb.cell (p := ⟨ae, 5, none⟩) h1).trans e5, (hb.cell (p := ⟨ae, 6, none⟩) h1).trans e6, (hb.cell (p := ⟨ae, 7, none⟩) h1).trans e7, (hb.cell (p := ⟨ae, 8, none⟩) h1).trans e8, (hb.cell (p := ⟨ae, 9, none⟩) h1).trans e9, (hb.cell (p := ⟨ae, 10, none⟩) h1).trans eX, (hb.cell (p := ⟨ae + 1, 0, none⟩) h2).trans f0, (hb.cell (p := ⟨bo + 1, 0, none⟩) h4).trans g0, (hb.cell (p := ⟨bo, 0, none⟩) h3).trans o0, (hb.cell (p := ⟨bl, off, none⟩) h5).trans k0, (hb.cell (p := ⟨bl, off + 1, none⟩) h5).trans k1, (hb.cell (p := ⟨bl, off + 2, none⟩) h5).trans k2, (hb.cell (p := ⟨bl, off + 3, none⟩) h5).trans k3, (hb.cell (p := ⟨bl, off + 4, none⟩) h5).trans k4, (hb.cell (p := ⟨bl, off + 5, none⟩) h5).trans k5, (hb.cell (p := ⟨bl, off + 6, none⟩) h5).trans k6, (hb.cell (p := ⟨bl, off + 7, none⟩) h5).trans k7, (hb.cell (p := ⟨bl, off + 8, none⟩) h5).trans k8, (hb.cell (p := ⟨bl, off + 9, none⟩) h5).trans k9, (hb.cell (p := ⟨bl, off + 10, none⟩) h5).trans kX, (hb.cell (p := ⟨bl, off + 11, none⟩) h5).trans m0⟩
theorem known_text : ((⟨#[97, 32, 43, 32, 98, 32, 42, 32, 99]⟩ : ByteArray).data.toList) = [97, 32, 43, 32, 98, 32, 42, 32, 99] := rfl
theorem Is.kn {w : World} {B : Nat} {vs : List Value} (h : Is w B knE vs) : ∃ bl off c q qc, vs = exCells 14 0 [] [] 0 (.slice (some ⟨bl, off, none⟩) 2 c) 2 0 0 0 0 ∧ bl < w.heap.size ∧
    (∀ (i : Nat) (v : Value), (exCells 4 0 [97] [] 0 (.slice q 0 qc) 0 0 0 0 0)[i]? = some v → w.cell? ⟨bl, off + 0 * 11 + i, none⟩ = some v) ∧ Is w B knA (exCells 4 0 [97] [] 0 (.slice q 0 qc) 0 0 0 0 0) ∧ w.cell? ⟨bl, off + 11, none⟩ = some (.int .i64 16) := by
  obtain ⟨p, c, hv, hk⟩ := h.kids
  rcases hk with hk | ⟨bl, off, rfl, hbl, hB, ha⟩
  · cases hk
  · obtain ⟨vs0, hi0, hc0⟩ := At.get _ off 0 knA ha rfl
    obtain ⟨vs1, hi1, hc1⟩ := At.get _ off 1 knM ha rfl
    obtain ⟨q, qc, rfl, -⟩ := hi0.kids
    obtain ⟨q1, qc1, rfl, -⟩ := hi1.kids
    exact ⟨bl, off, c, q, qc, hv, hbl, hc0, hi0, hc1 0 _ rfl⟩
end Go.Proofs.YtnadaedibicaaaaDoor
