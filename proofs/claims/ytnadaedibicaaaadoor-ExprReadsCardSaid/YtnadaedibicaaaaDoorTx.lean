/-
  An argument that reads as an expression is one, in memory; what it reads as stays while memory only grows; alike is an even relation.
  A token's text is no longer than the text.
-/
import Derived.Test.YtnadaedibicaaaaDoorSn
import Derived.ChangeArms
import Derived.ChangeSame
import Derived.Deep.Slices
import Derived.Test.YtnadaedibicaaaaDoorKo
namespace Go.Proofs.YtnadaedibicaaaaDoor
open Go.RowKit Go.ChangeShapes Go.WideShapes Go.ChangeAt Go.ChangeMaps
open Px (RT tokAt)
open Pe

theorem cbs_of (s : ByteArray) : cbs s.data.toList = s := by simp [cbs]
theorem at_of {w : World} {bl : Nat} : ∀ (len off : Nat), (∀ i, i < len → ∃ e cs, Is w 0 e cs ∧ fitE e = true ∧ ∀ j, j < 11 → w.cell? ⟨bl, off + i * 11 + j, none⟩ = cs[j]?) → ∃ es, es.length = len ∧ At w 0 bl off es ∧ fitL es = true
  | 0, off, _ => ⟨[], rfl, by rw [At]; trivial, by rw [fitL]⟩
  | len + 1, off, h => by
    obtain ⟨e, cs, hi, hf, hc⟩ := h 0 (Nat.succ_pos _)
    obtain ⟨es, hl, ha, hfl⟩ := at_of len (off + 11) fun i hlt => by
      obtain ⟨e, cs, hi, hf, hc⟩ := h (i + 1) (Nat.succ_lt_succ hlt)
      exact ⟨e, cs, hi, hf, fun j hj => by rw [← hc j hj]; congr 2; omega⟩
    refine ⟨e :: es, by simp [hl], ?_, by rw [fitL, hf, hfl]; rfl⟩
    rw [At]
    refine ⟨⟨cs, hi, fun i v hv => ?_⟩, ha⟩
    have hlen := hi.len
    have hlt : i < 11 := by have := (List.getElem?_eq_some_iff.1 hv).1; omega
    rw [show off + i = off + 0 * 11 + i by omega, hc i hlt, hv]

theorem addr_row (bl off i j : Nat) : ((⟨bl, off, none⟩ : Addr).add (i * 11)).add j = ⟨bl, off + i * 11 + j, none⟩ := by
  rw [Go.Deep.add_add, Addr.add]
  split
  · rename_i h
    rw [show off + i * 11 + j = off by omega]
  · rw [Nat.add_assoc]

theorem cells_one : Tryd.prog.cellsOf 3 = 1 ∧ Tryd.prog.cellsOf 9 = 1 ∧ Tryd.prog.cellsOf 32 = 2 ∧ Tryd.prog.cellsOf 37 = 3 ∧ Tryd.prog.cellsOf 35 = 1 ∧ Tryd.prog.cellsOf 39 = 11 := by
  refine ⟨?_, ?_, ?_, ?_, ?_, ?_⟩ <;> kernel_rfl

theorem eleven_list {cs : List Value} (h : cs.length = 11) : ∃ c0 c1 c2 c3 c4 c5 c6 c7 c8 c9 cX, cs = [c0, c1, c2, c3, c4, c5, c6, c7, c8, c9, cX] := by
  match cs, h with
  | [c0, c1, c2, c3, c4, c5, c6, c7, c8, c9, cX], _ => exact ⟨c0, c1, c2, c3, c4, c5, c6, c7, c8, c9, cX, rfl⟩

section
variable {H : Type} {enc : TypeId × Value → H} {w : World} {sp : Nat → Bool} {held : Bool}
theorem int_cell {n : Nat} {c : Value} {x : DataW H × List MemPlace} (h : DataW.trod enc Tryd.prog w 0 sp held n 3 [c] = some x) : ∃ k, c = .int .i64 k := by
  obtain ⟨k, hk, -⟩ := DataW.trod_int Tryd.underlying3 h
  exact ⟨k, (List.cons.inj hk).1⟩
theorem string_cell {n : Nat} {c : Value} {x : DataW H × List MemPlace} (h : DataW.trod enc Tryd.prog w 0 sp held n 9 [c] = some x) : ∃ s : List UInt8, c = .string (cbs s) := by
  obtain ⟨s, hk, -⟩ := DataW.trod_string Tryd.underlying9 h
  exact ⟨s.data.toList, by rw [cbs_of]; exact (List.cons.inj hk).1⟩

set_option maxHeartbeats 1000000 in
theorem is_of_trod : ∀ (fuel : Nat) (cs : List Value) (x : DataW H × List MemPlace), DataW.trod enc Tryd.prog w 0 sp held fuel 39 cs = some x → ∃ e, Is w 0 e cs ∧ fitE e = true := by
  intro fuel
  induction fuel using Nat.strongRecOn with
  | _ fuel ih =>
    intro cs x h
    obtain ⟨z1, z2, z3, z4, z5, z6⟩ := cells_one
    obtain ⟨xs, n, rfl, -, hl, hxs, hf⟩ := DataW.trod_struct Tryd.underlying39 h
    rw [z6] at hl
    obtain ⟨c0, c1, c2, c3, c4, c5, c6, c7, c8, c9, cX, rfl⟩ := eleven_list hl
    have hx : ∀ i, i < 8 → ∃ y, xs[i]? = some y := fun i hi => ⟨xs[i]'(by rw [hxs]; exact hi), List.getElem?_eq_getElem _⟩
    obtain ⟨y0, hy0⟩ := hx 0 (by decide)
    obtain ⟨y1, hy1⟩ := hx 1 (by decide)
    obtain ⟨y2, hy2⟩ := hx 2 (by decide)
    obtain ⟨y3, hy3⟩ := hx 3 (by decide)
    obtain ⟨y4, hy4⟩ := hx 4 (by decide)
    obtain ⟨y5, hy5⟩ := hx 5 (by decide)
    obtain ⟨y6, hy6⟩ := hx 6 (by decide)
    obtain ⟨y7, hy7⟩ := hx 7 (by decide)
    have f0 : DataW.trod enc Tryd.prog w 0 sp held n 3 [c0] = some y0 := by
      have h0 := hf 0 _ rfl
      have h1 : DataW.trod enc Tryd.prog w 0 sp held n 3 ((List.drop 0 [c0, c1, c2, c3, c4, c5, c6, c7, c8, c9, cX]).take (Tryd.prog.cellsOf 3)) = some y0 := h0.trans hy0
      rw [z1] at h1
      exact h1
    have f1 : DataW.trod enc Tryd.prog w 0 sp held n 3 [c1] = some y1 := by
      have h0 := hf 1 _ rfl
      have h1 : DataW.trod enc Tryd.prog w 0 sp held n 3 ((List.drop 1 [c0, c1, c2, c3, c4, c5, c6, c7, c8, c9, cX]).take (Tryd.prog.cellsOf 3)) = some y1 := h0.trans hy1
      rw [z1] at h1
      exact h1
    have f2 : DataW.trod enc Tryd.prog w 0 sp held n 9 [c2] = some y2 := by
      have h0 := hf 2 _ rfl
      have h1 : DataW.trod enc Tryd.prog w 0 sp held n 9 ((List.drop 2 [c0, c1, c2, c3, c4, c5, c6, c7, c8, c9, cX]).take (Tryd.prog.cellsOf 9)) = some y2 := h0.trans hy2
      rw [z2] at h1
      exact h1
    have f3 : DataW.trod enc Tryd.prog w 0 sp held n 32 [c3, c4] = some y3 := by
      have h0 := hf 3 _ rfl
      have h1 : DataW.trod enc Tryd.prog w 0 sp held n 32 ((List.drop 3 [c0, c1, c2, c3, c4, c5, c6, c7, c8, c9, cX]).take (Tryd.prog.cellsOf 32)) = some y3 := h0.trans hy3
      rw [z3] at h1
      exact h1
    have f4 : DataW.trod enc Tryd.prog w 0 sp held n 35 [c5] = some y4 := by
      have h0 := hf 4 _ rfl
      have h1 : DataW.trod enc Tryd.prog w 0 sp held n 35 ((List.drop 5 [c0, c1, c2, c3, c4, c5, c6, c7, c8, c9, cX]).take (Tryd.prog.cellsOf 35)) = some y4 := h0.trans hy4
      rw [z5] at h1
      exact h1
    have f5 : DataW.trod enc Tryd.prog w 0 sp held n 3 [c6] = some y5 := by
      have h0 := hf 5 _ rfl
      have h1 : DataW.trod enc Tryd.prog w 0 sp held n 3 ((List.drop 6 [c0, c1, c2, c3, c4, c5, c6, c7, c8, c9, cX]).take (Tryd.prog.cellsOf 3)) = some y5 := h0.trans hy5
      rw [z1] at h1
      exact h1
    have f6 : DataW.trod enc Tryd.prog w 0 sp held n 37 [c7, c8, c9] = some y6 := by
      have h0 := hf 6 _ rfl
      have h1 : DataW.trod enc Tryd.prog w 0 sp held n 37 ((List.drop 7 [c0, c1, c2, c3, c4, c5, c6, c7, c8, c9, cX]).take (Tryd.prog.cellsOf 37)) = some y6 := h0.trans hy6
      rw [z4] at h1
      exact h1
    have f7 : DataW.trod enc Tryd.prog w 0 sp held n 3 [cX] = some y7 := by
      have h0 := hf 7 _ rfl
      have h1 : DataW.trod enc Tryd.prog w 0 sp held n 3 ((List.drop 10 [c0, c1, c2, c3, c4, c5, c6, c7, c8, c9, cX]).take (Tryd.prog.cellsOf 3)) = some y7 := h0.trans hy7
      rw [z1] at h1
      exact h1
    obtain ⟨a0, rfl⟩ := int_cell f0
    obtain ⟨a1, rfl⟩ := int_cell f1
    obtain ⟨a2, rfl⟩ := string_cell f2
    obtain ⟨a6, rfl⟩ := int_cell f5
    obtain ⟨aX, rfl⟩ := int_cell f7
    obtain ⟨us, m, -, -, -, hus, hg⟩ := DataW.trod_struct Tryd.underlying32 f3
    have hu : ∀ i, i < 2 → ∃ y, us[i]? = some y := fun i hi => ⟨us[i]'(by rw [hus]; exact hi), List.getElem?_eq_getElem _⟩
    obtain ⟨u0, hu0⟩ := hu 0 (by decide)
    obtain ⟨u1, hu1⟩ := hu 1 (by decide)
    have g0 : DataW.trod enc Tryd.prog w 0 sp held m 9 [c3] = some u0 := by
      have h0 := hg 0 _ rfl
      have h1 : DataW.trod enc Tryd.prog w 0 sp held m 9 ((List.drop 0 [c3, c4]).take (Tryd.prog.cellsOf 9)) = some u0 := h0.trans hu0
      rw [z2] at h1
      exact h1
    have g1 : DataW.trod enc Tryd.prog w 0 sp held m 3 [c4] = some u1 := by
      have h0 := hg 1 _ rfl
      have h1 : DataW.trod enc Tryd.prog w 0 sp held m 3 ((List.drop 1 [c3, c4]).take (Tryd.prog.cellsOf 3)) = some u1 := h0.trans hu1
      rw [z1] at h1
      exact h1
    obtain ⟨vs, m2, -, -, -, hvs, hq⟩ := DataW.trod_struct Tryd.underlying37 f6
    have hv : ∀ i, i < 3 → ∃ y, vs[i]? = some y := fun i hi => ⟨vs[i]'(by rw [hvs]; exact hi), List.getElem?_eq_getElem _⟩
    obtain ⟨v0, hv0⟩ := hv 0 (by decide)
    obtain ⟨v1, hv1⟩ := hv 1 (by decide)
    obtain ⟨v2, hv2⟩ := hv 2 (by decide)
    have q0 : DataW.trod enc Tryd.prog w 0 sp held m2 3 [c7] = some v0 := by
      have h0 := hq 0 _ rfl
      have h1 : DataW.trod enc Tryd.prog w 0 sp held m2 3 ((List.drop 0 [c7, c8, c9]).take (Tryd.prog.cellsOf 3)) = some v0 := h0.trans hv0
      rw [z1] at h1
      exact h1
    have q1 : DataW.trod enc Tryd.prog w 0 sp held m2 3 [c8] = some v1 := by
      have h0 := hq 1 _ rfl
      have h1 : DataW.trod enc Tryd.prog w 0 sp held m2 3 ((List.drop 1 [c7, c8, c9]).take (Tryd.prog.cellsOf 3)) = some v1 := h0.trans hv1
      rw [z1] at h1
      exact h1
    have q2 : DataW.trod enc Tryd.prog w 0 sp held m2 3 [c9] = some v2 := by
      have h0 := hq 2 _ rfl
      have h1 : DataW.trod enc Tryd.prog w 0 sp held m2 3 ((List.drop 2 [c7, c8, c9]).take (Tryd.prog.cellsOf 3)) = some v2 := h0.trans hv2
      rw [z1] at h1
      exact h1
    obtain ⟨a3, rfl⟩ := string_cell g0
    obtain ⟨a4, rfl⟩ := int_cell g1
    obtain ⟨a7, rfl⟩ := int_cell q0
    obtain ⟨a8, rfl⟩ := int_cell q1
    obtain ⟨a9, rfl⟩ := int_cell q2
    rcases DataW.trod_slice Tryd.underlying35 f4 with ⟨h0, -⟩ | ⟨a, len, cap, elems, rest, k, rfl, h0, -, -, hlc, hcm, hel, hat, -, -⟩
    · obtain rfl := (List.cons.inj h0).1
      exact ⟨.mk a0 a1 a2 a3 a4 [] a6 a7 a8 a9 aX, by rw [Is]; exact ⟨none, 0, rfl, .inl rfl⟩, by rw [fitE, fitL]; rfl⟩
    · obtain rfl := (List.cons.inj h0).1
      have hlm : len ≤ 9223372036854775807 := Nat.le_trans hlc hcm
      rw [z6] at hat
      by_cases hz : len = 0
      · subst hz
        exact ⟨.mk a0 a1 a2 a3 a4 [] a6 a7 a8 a9 aX, by rw [Is]; exact ⟨some a, cap, rfl, .inl rfl⟩, by rw [fitE, fitL]; rfl⟩
      · obtain ⟨bl, off, spot⟩ := a
        have hall : ∀ i, i < len → ∃ e cs, Is w 0 e cs ∧ fitE e = true ∧ ∀ j, j < 11 → w.cell? (((⟨bl, off, spot⟩ : Addr).add (i * 11)).add j) = cs[j]? := by
          intro i hi
          have h1 := hat i hi
          rw [List.getElem?_eq_getElem (by rw [hel]; exact hi), Option.bind_eq_some_iff] at h1
          obtain ⟨cs, hcs, ht⟩ := h1
          obtain ⟨e, he, hfe⟩ := ih k (by omega) cs _ ht
          exact ⟨e, cs, he, hfe, (World.cells?_some hcs).2.2⟩
        obtain ⟨e0, cs0, hi0, -, hc0⟩ := hall 0 (Nat.pos_of_ne_zero hz)
        have hcell : w.cell? (((⟨bl, off, spot⟩ : Addr).add (0 * 11)).add 0) = some (cs0[0]'(by rw [hi0.len]; decide)) := by rw [hc0 0 (by decide)]; exact List.getElem?_eq_getElem _
        have hspot : spot = none := by simpa [Addr.add] using World.cell?_spot hcell
        subst hspot
        have hbl : bl < w.heap.size := by
          rcases Nat.lt_or_ge bl w.heap.size with h1 | h1
          · exact h1
          · exfalso
            have h2 : w.heap[bl]? = none := Array.getElem?_eq_none h1
            simp [World.cell?, Addr.add, h2] at hcell
        obtain ⟨es, hes, ha, hfl⟩ := at_of (w := w) (bl := bl) len off fun i hi => by
          obtain ⟨e, cs, he, hfe, hc⟩ := hall i hi
          refine ⟨e, cs, he, hfe, fun j hj => ?_⟩
          rw [← hc j hj, addr_row]
        subst hes
        refine ⟨.mk a0 a1 a2 a3 a4 es a6 a7 a8 a9 aX, ?_, ?_⟩
        · rw [Is]
          exact ⟨some ⟨bl, off, none⟩, cap, rfl, .inr ⟨bl, off, rfl, hbl, Nat.zero_le _, ha⟩⟩
        · rw [fitE, hfl, decide_eq_true hlm]; rfl
theorem arg_is {v : Value} {d : DataW H} {ps : List MemPlace} (h : DataW.Trod enc Tryd.prog w 0 sp held 39 v d ps) : ∃ e vs, v = .agg ⟨vs⟩ ∧ Is w 0 e vs ∧ fitE e = true := by
  obtain ⟨fuel, h⟩ := h
  obtain ⟨e, hi, hf⟩ := is_of_trod fuel _ _ h
  have hl := hi.len
  cases v with
  | agg cs => exact ⟨e, cs.toList, rfl, hi, hf⟩
  | _ => simp [Value.cells] at hl
end

/-! Alike is an even relation, whatever each says of where it stands. -/
mutual
theorem sameE_self : ∀ e : Ex, sameE e e = true
  | .mk k n s o d ks a b r e f => by
    rw [sameE, sameL_self ks]
    simp
theorem sameL_self : ∀ es : List Ex, sameL es es = true
  | [] => by rw [sameL]
  | e :: es => by rw [sameL, sameE_self e, sameL_self es]; rfl
end
mutual
theorem sameE_symm : ∀ x y : Ex, sameE x y = sameE y x
  | .mk k n s o d ks a b r e f, .mk k2 n2 s2 o2 d2 ks2 a2 b2 r2 e2 f2 => by
    rw [sameE, sameE, sameL_symm ks ks2, BEq.comm (a := k) (b := k2), BEq.comm (a := n) (b := n2), BEq.comm (a := s) (b := s2), BEq.comm (a := o) (b := o2), BEq.comm (a := d) (b := d2), BEq.comm (a := b) (b := b2), BEq.comm (a := r) (b := r2), BEq.comm (a := e) (b := e2), BEq.comm (a := f) (b := f2)]
theorem sameL_symm : ∀ xs ys : List Ex, sameL xs ys = sameL ys xs
  | [], [] => rfl
  | [], _ :: _ => by simp only [sameL]
  | _ :: _, [] => by simp only [sameL]
  | e :: es, e2 :: es2 => by rw [sameL, sameL, sameE_symm e e2, sameL_symm es es2]
end
/-- It stands elsewhere. -/
def put : Ex → Int → Ex
  | .mk k n s o d ks _ b r e f, a => .mk k n s o d ks a b r e f
theorem sameE_put (x : Ex) (a : Int) : sameE x (put x a) = true := by
  obtain ⟨k, n, s, o, d, ks, at_, b, r, e, f⟩ := x
  rw [put, sameE, sameL_self]
  simp
end Go.Proofs.YtnadaedibicaaaaDoor
namespace Go.Proofs.YtnadaedibicaaaaDoor
open Go.RowKit
open Px (RT tokAt)
open Pe

theorem one_text {r : List UInt8} {kind : Nat} {text : List UInt8} {num m : Nat} (h : Ln.Lx.one r = some (kind, text, num, m)) : text.length ≤ r.length := by
  unfold Ln.Lx.one at h
  split at h
  · cases h
  · rename_i c r'
    split at h
    · split at h
      · simp only [Option.some.injEq, Prod.mk.injEq] at h
        rw [← h.2.1, List.length_take]; omega
      · split at h
        · simp only [Option.some.injEq, Prod.mk.injEq] at h
          rw [← h.2.1, List.length_take]; omega
        · cases h
    · split at h
      · split at h
        · cases h
        · simp only [Option.some.injEq, Prod.mk.injEq] at h
          rw [← h.2.1]; exact Nat.zero_le _
      · split at h
        · cases h
        · rename_i g hg
          simp only [Option.some.injEq, Prod.mk.injEq] at h
          have := Ln.Lx.signAt_le hg
          rw [← h.2.1]; exact this
theorem lexF_text : ∀ (f k : Nat) (r : List UInt8) (ts : List Ln.Lx.Tk), Ln.Lx.lexF f k r = .ok ts → ∀ t ∈ ts, t.text.length ≤ r.length
  | 0, _, _, _, h => by simp [Ln.Lx.lexF] at h
  | f + 1, k, [], ts, h => by
    simp only [Ln.Lx.lexF] at h
    injection h with h
    rw [← h]; intro t ht; cases ht
  | f + 1, k, c :: r, ts, h => by
    rw [Ln.Lx.lexF] at h
    split at h
    · cases h
    · rename_i kind text num m h1
      have hm := one_text h1
      split at h
      · cases h
      · rename_i us hu
        have := lexF_text f _ _ us hu
        injection h with h
        rw [← h]
        intro t ht
        rcases List.mem_cons.1 ht with rfl | ht
        · exact hm
        · have := this t ht
          rw [List.length_drop] at this
          omega
theorem toks_text (l : List UInt8) : ∀ t ∈ (Ln.Lx.toks l).1, t.text.length ≤ 281474976710656 := by
  unfold Ln.Lx.toks
  by_cases h : 6000 < l.length
  · rw [if_pos h]; intro t ht; cases ht
  · rw [if_neg h]
    cases h2 : Ln.Lx.lexAll l with
    | error k => intro t ht; cases ht
    | ok ts =>
      intro t ht
      rcases List.mem_append.1 ht with ht | ht
      · have := lexF_text _ _ _ ts h2 t ht
        rw [List.length_drop] at this
        omega
      · rw [List.mem_singleton] at ht
        subst ht
        exact Nat.zero_le _
end Go.Proofs.YtnadaedibicaaaaDoor
