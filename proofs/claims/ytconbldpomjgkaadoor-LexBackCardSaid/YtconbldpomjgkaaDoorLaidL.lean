/-
  What the listed package-level variables give a walk: the two sentinels' cells hold an interface value; the table of lex's signs. And the world that the program's own start leaves meets the condition.
-/
import Derived.Test.YtconbldpomjgkaaDoorRows
import Derived.Test.YtconbldpomjgkaaDoorSmall
import Derived.ProofKit
import Derived.LaidMore
import Derived.OpenShut
import Derived.Stop.Joined
import Derived.Stop.LaidErr
import Derived.Lib.LaidTab
import Derived.Lib.SmallJoins
namespace Go.Proofs.YtconbldpomjgkaaDoor
open Go.ChangeShapes Go.WideShapes Go.ChangeAt Go.WideMaps Go.WideElems Go.RowKit

/-- The condition's list. -/
def laidAll : List (String × DataW Unit) := [("math/bits.deBruijn32tab", Rows.laid_math_bits_deBruijn32tab), ("math/bits.deBruijn64tab", Rows.laid_math_bits_deBruijn64tab), ("internal/strconv.uint64pow10", Rows.laid_internal_strconv_uint64pow10), ("strconv.ErrRange", Rows.laid_strconv_ErrRange), ("strconv.ErrSyntax", Rows.laid_strconv_ErrSyntax), ("runrig/lex.signs", Rows.laid_runrig_lex_signs)]

/-! An array of strings that reads as a table of texts. -/
def textData {H : Type} (zs : List (List UInt8)) : DataW H := .agg (zs.map fun z => .lit (.string z))
theorem cells_of_texts {H : Type} {enc : TypeId × Value → H} {P : Program} {w : World} {base : Nat} {sp : Nat → Bool} {held : Bool} {fuel : Nat} {t e : TypeId} {n : Nat} {cs : List Value} {zs : List (List UInt8)} {p : List MemPlace}
    (ht : P.underlying t = some (.array n e)) (he : P.underlying e = some .string) (hce : P.cellsOf e = 1) (hct : P.cellsOf t = n)
    (h : DataW.trod enc P w base sp held fuel t cs = some (textData zs, p)) : cs = zs.map fun z => Value.string (bs z) := by
  cases fuel with
  | zero => simp [DataW.trod] at h
  | succ fuel =>
    simp only [DataW.trod, ht, hce, hct, Nat.mul_one] at h
    split at h
    · rename_i hl
      obtain ⟨xs, hm, hx⟩ := Option.map_eq_some_iff.1 h
      have hxs : xs.map (·.1) = zs.map fun z => (DataW.lit (.string z) : DataW H) := by
        have := congrArg Prod.fst hx
        simpa [textData] using this
      have hxl : xs.length = n := by simpa using Lib.mapM_length hm
      have hzl : zs.length = n := by
        have := congrArg List.length hxs
        simp at this
        omega
      apply List.ext_getElem?
      intro i
      by_cases hi : i < n
      · obtain ⟨b, hb, hf⟩ := Lib.mapM_at hm i i (by simp [hi])
        obtain ⟨z, hc, hbz, _⟩ := DataW.trod_string he hf
        have h1 : cs[i]? = some (.string z) := by
          have := congrArg (·[0]?) hc
          simpa [List.getElem?_take, List.getElem?_drop] using this
        have h2 : (xs.map (·.1))[i]? = some (DataW.lit (.string z.data.toList) : DataW H) := by simp [hb, hbz]
        rw [hxs] at h2
        simp only [List.getElem?_map, Option.map_eq_some_iff, DataW.lit.injEq, Lit.string.injEq] at h2
        obtain ⟨z', hz', hq⟩ := h2
        rw [h1, List.getElem?_map, hz', hq]
        rfl
      · rw [List.getElem?_eq_none (by omega), List.getElem?_eq_none (by simp; omega)]
    · cases h

theorem heap_of_var {P : Program} {w : World} {n : String} {g : Nat} {cs : Array Value} (hg : P.globalNamed n = some g) (h : w.var? P n = some cs) : ∃ t fr, w.heap[g]? = some (.cells cs t fr) := by
  simp only [World.var?, hg, Option.bind_some] at h
  split at h
  · rename_i cs' t fr he
    injection h with h
    exact ⟨t, fr, by rw [he, h]⟩
  · cases h
theorem textIs_of_head {P : Program} {W : World} {name : String} {zs : List (List UInt8)} {rest : List (String × DataW Unit)} {g : Nat} {t e : TypeId} {n : Nat}
    (hg : P.globalNamed name = some g) (hty : (P.globals[g]?).map (·.type) = some t) (ht : P.underlying t = some (.array n e)) (he : P.underlying e = some .string) (hce : P.cellsOf e = 1) (hct : P.cellsOf t = n)
    (h : laidMet P ((name, textData zs) :: rest) W) : ∃ t' fr, W.heap[g]? = some (.cells (zs.map fun z => Value.string (bs z)).toArray t' fr) := by
  obtain ⟨ps, ⟨g', t', cs, fuel, p, q, hg', ht', hvar, hd, _, _⟩, _⟩ := h
  obtain rfl := Option.some.inj (hg.symm.trans hg')
  obtain rfl := Option.some.inj (hty.symm.trans ht')
  refine heap_of_var hg ?_
  rw [hvar, ← cells_of_texts ht he hce hct hd]

def signsV : Array Value := (Lx.signs.map fun z => Value.string (bs z)).toArray
theorem signsV_size : signsV.size = 23 := by simp [signsV, Lx.signs]
theorem signsV_at {j : Nat} {g : List UInt8} (h : Lx.signs[j]? = some g) : signsV[j]? = some (.string (bs g)) := by
  simp [signsV, h]

/-- What a walk wants of the listed variables. -/
structure Env (w : World) : Prop where
  syn : ∃ a, w.cell? ⟨1, 0, none⟩ = some (.iface 76 (.pointer (some a)))
  ran : ∃ a, w.cell? ⟨2, 0, none⟩ = some (.iface 76 (.pointer (some a)))
  sig : ∃ t fr, w.heap[0]? = some (.cells signsV t fr)

theorem cell_lt {w : World} {b o : Nat} {v : Value} (h : w.cell? ⟨b, o, none⟩ = some v) : b < w.heap.size := by
  rcases Nat.lt_or_ge b w.heap.size with h' | h'
  · exact h'
  · simp [World.cell?, Array.getElem?_eq_none h'] at h
theorem heap_lt {w : World} {b : Nat} {v : Obj} (h : w.heap[b]? = some v) : b < w.heap.size := (Array.getElem?_eq_some_iff.1 h).1

theorem Env.below {w w' : World} (h : Env w) (hb : Below w.heap.size w w') : Env w' := by
  refine ⟨?_, ?_, ?_⟩
  · obtain ⟨a, ha⟩ := h.syn
    exact ⟨a, by rw [hb.cell (p := ⟨_, _, _⟩) (cell_lt ha)]; exact ha⟩
  · obtain ⟨a, ha⟩ := h.ran
    exact ⟨a, by rw [hb.cell (p := ⟨_, _, _⟩) (cell_lt ha)]; exact ha⟩
  · obtain ⟨t, fr, ha⟩ := h.sig
    exact ⟨t, fr, by rw [hb.block _ (heap_lt ha)]; exact ha⟩

theorem own : ownKnob Tryd.prog.godebug = none := by kernel_rfl

theorem signs_is : (Rows.laid_runrig_lex_signs : DataW Unit) = textData Lx.signs := by kernel_rfl

theorem gSyn : Tryd.prog.globalNamed "strconv.ErrSyntax" = some 1 := by kernel_rfl
theorem gRan : Tryd.prog.globalNamed "strconv.ErrRange" = some 2 := by kernel_rfl
theorem gSynT : (Tryd.prog.globals[1]?).map (·.type) = some 55 := by kernel_rfl
theorem gRanT : (Tryd.prog.globals[2]?).map (·.type) = some 55 := by kernel_rfl
theorem starE : ("*errors.errorString" : String) = "*" ++ "errors.errorString" := by decide
theorem rowE (u : TypeId) (h : Tryd.prog.typeName? 3 u = some "*errors.errorString") : u = 76 :=
  typeName_ptr_named (nm := "errors.errorString") (by rw [← starE]; kernel_rfl) (by kernel_rfl) (by decide) u (by rw [← starE]; exact h)

/-- From the condition to what the walks want. -/
theorem env_of {W : World} (h : laidMetH Tryd.prog laidAll W) : Env W := by
  rw [MakeChecks.laidMetH_plain _ _ _ (by kernel_rfl)] at h
  have h3 := h.tail.tail.tail
  have h4 := h3.tail
  have h5 := h4.tail
  rw [show (("runrig/lex.signs", Rows.laid_runrig_lex_signs) : String × DataW Unit) = ("runrig/lex.signs", textData Lx.signs) by rw [signs_is]] at h5
  have ht := textIs_of_head (by kernel_rfl : Tryd.prog.globalNamed "runrig/lex.signs" = some 0) (by kernel_rfl : (Tryd.prog.globals[0]?).map (·.type) = some 58) Tryd.underlying58 Tryd.underlying9 (by kernel_rfl) (by kernel_rfl) h5
  obtain ⟨a1, s1, hv1, -, -, -⟩ := laid_sentinel h3 gRan gRanT Tryd.underlying55 rowE Tryd.underlying76 Tryd.underlying78 rfl rfl Tryd.underlying9 (by kernel_rfl) (by kernel_rfl)
  obtain ⟨a0, s0, hv0, -, -, -⟩ := laid_sentinel h4 gSyn gSynT Tryd.underlying55 rowE Tryd.underlying76 Tryd.underlying78 rfl rfl Tryd.underlying9 (by kernel_rfl) (by kernel_rfl)
  exact ⟨⟨a0, by simpa using World.var?_cell gSyn hv0 0⟩, ⟨a1, by simpa using World.var?_cell gRan hv1 0⟩, ht⟩
end Go.Proofs.YtconbldpomjgkaaDoor
