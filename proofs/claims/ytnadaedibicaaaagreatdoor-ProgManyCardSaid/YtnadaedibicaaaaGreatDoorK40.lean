/-
  What the listed package-level variable (the table of binary signs) gives a walk; and the world that the program's own start leaves meets the condition.
-/
import Derived.Test.YtnadaedibicaaaaGreatDoorK10
import Derived.Test.YtnadaedibicaaaaGreatDoorK01
import Derived.Test.YtnadaedibicaaaaGreatDoorRows
import Derived.ProofKit
import Derived.LaidMore
import Derived.OpenShut
import Derived.Stop.Joined
import Derived.Stop.LaidErr
import Derived.Lib.LaidTab
import Derived.Lib.SmallJoins
namespace Go.Proofs.YtnadaedibicaaaaGreatDoor
open Go.ChangeShapes Go.WideShapes Go.ChangeAt Go.WideMaps Go.WideElems Go.RowKit
open Pe

/-- The condition's list. -/
def laidAll : List (String × DataW Unit) := [("math/bits.deBruijn32tab", Rows.laid_math_bits_deBruijn32tab), ("math/bits.deBruijn64tab", Rows.laid_math_bits_deBruijn64tab), ("internal/strconv.uint64pow10", Rows.laid_internal_strconv_uint64pow10), ("strconv.ErrRange", Rows.laid_strconv_ErrRange), ("strconv.ErrSyntax", Rows.laid_strconv_ErrSyntax), ("runrig/expr.operators", Rows.laid_runrig_expr_operators), ("runrig/lex.signs", Rows.laid_runrig_lex_signs)]
def opData {H : Type} (o : List UInt8 × Int × Int) : DataW H := .agg [.lit (.string o.1), .lit (.int .i64 o.2.1), .lit (.int .i64 o.2.2)]
theorem ops_is : (Rows.laid_runrig_expr_operators : DataW Unit) = .agg (opList.map opData) := by kernel_rfl

theorem cS : Tryz.prog.cellsOf 9 = 1 := by kernel_rfl
theorem cI : Tryz.prog.cellsOf 3 = 1 := by kernel_rfl
theorem cO : Tryz.prog.cellsOf 223 = 3 := by kernel_rfl
theorem cOs : Tryz.prog.cellsOf 224 = 33 := by kernel_rfl

theorem op_cells {H : Type} {enc : TypeId × Value → H} {w : World} {base : Nat} {sp : Nat → Bool} {held : Bool} {fuel : Nat} {cs : List Value} {o : List UInt8 × Int × Int} {p : List MemPlace}
    (h : DataW.trod enc Tryz.prog w base sp held fuel 223 cs = some (opData o, p)) : cs = [.string (cbs o.1), .int .i64 o.2.1, .int .i64 o.2.2] := by
  obtain ⟨xs, n, -, hx, hlen, hxl, hf⟩ := DataW.trod_struct Tryz.underlying223 h
  have hx1 : xs.map (·.1) = [(DataW.lit (.string o.1) : DataW H), .lit (.int .i64 o.2.1), .lit (.int .i64 o.2.2)] := by
    have := congrArg Prod.fst hx
    simp only [opData, DataW.agg.injEq] at this
    exact this.symm
  have h0 := hf 0 _ rfl
  have h1 := hf 1 _ rfl
  have h2 := hf 2 _ rfl
  change DataW.trod enc Tryz.prog w base sp held n 9 ((cs.drop 0).take (Tryz.prog.cellsOf 9)) = xs[0]? at h0
  change DataW.trod enc Tryz.prog w base sp held n 3 ((cs.drop 1).take (Tryz.prog.cellsOf 3)) = xs[1]? at h1
  change DataW.trod enc Tryz.prog w base sp held n 3 ((cs.drop 2).take (Tryz.prog.cellsOf 3)) = xs[2]? at h2
  rw [cS] at h0
  rw [cI] at h1 h2
  match xs, hx1 with
  | [a, b, c], hx1 =>
    simp only [List.map_cons, List.map_nil, List.cons.injEq, and_true] at hx1
    obtain ⟨ha, hb, hc⟩ := hx1
    simp only [List.getElem?_cons_zero, List.getElem?_cons_succ] at h0 h1 h2
    obtain ⟨s, e0, q0, -⟩ := DataW.trod_string Tryz.underlying9 h0
    obtain ⟨m1, e1, q1, -⟩ := DataW.trod_int Tryz.underlying3 h1
    obtain ⟨m2, e2, q2, -⟩ := DataW.trod_int Tryz.underlying3 h2
    rw [q0] at ha
    rw [q1] at hb
    rw [q2] at hc
    simp only [DataW.lit.injEq, Lit.string.injEq, Lit.int.injEq, true_and] at ha hb hc
    rw [cO] at hlen
    obtain ⟨x, y, z, rfl⟩ : ∃ x y z, cs = [x, y, z] := by
      rcases cs with _ | ⟨x, _ | ⟨y, _ | ⟨z, _ | ⟨v, r⟩⟩⟩⟩
      · simp at hlen
      · simp at hlen
      · simp at hlen
      · exact ⟨x, y, z, rfl⟩
      · simp at hlen
    simp at e0 e1 e2
    rw [e0, e1, e2, ← hb, ← hc, ← ha]
    rfl
theorem chunks {α β : Type} (f : β → List α) : ∀ (l : List β) (cs : List α), cs.length = l.length * 3 → (∀ (i : Nat) o, l[i]? = some o → (cs.drop (i * 3)).take 3 = f o) → cs = l.flatMap f
  | [], cs, hl, _ => by simpa using hl
  | o :: l, cs, hl, hk => by
    have h0 := hk 0 o rfl
    rw [Nat.zero_mul, List.drop_zero] at h0
    have ih := chunks f l (cs.drop 3) (by simp at hl ⊢; omega) fun i o' ho' => by
      have := hk (i + 1) o' (by simpa using ho')
      rw [List.drop_drop, show 3 + i * 3 = (i + 1) * 3 by omega]
      exact this
    rw [List.flatMap_cons, ← h0, ← ih, List.take_append_drop]
theorem cells_of_ops {H : Type} {enc : TypeId × Value → H} {w : World} {base : Nat} {sp : Nat → Bool} {held : Bool} {fuel : Nat} {cs : List Value} {p : List MemPlace}
    (h : DataW.trod enc Tryz.prog w base sp held fuel 224 cs = some (.agg (opList.map opData), p)) : cs.toArray = opsV := by
  cases fuel with
  | zero => simp [DataW.trod] at h
  | succ fuel =>
    simp only [DataW.trod, Tryz.underlying224, cO, cOs] at h
    split at h
    · rename_i hl
      obtain ⟨xs, hm, hx⟩ := Option.map_eq_some_iff.1 h
      have hxs : xs.map (·.1) = opList.map (opData (H := H)) := by
        have := congrArg Prod.fst hx
        simpa using this
      have hxl : xs.length = 11 := by simpa using Lib.mapM_length hm
      have key : ∀ i o, opList[i]? = some o → ((cs.drop (i * 3)).take 3) = [.string (cbs o.1), .int .i64 o.2.1, .int .i64 o.2.2] := by
        intro i o ho
        have hi : i < 11 := (List.getElem?_eq_some_iff.1 ho).1
        obtain ⟨b, hb, hf⟩ := Lib.mapM_at hm i i (by simp [hi])
        have h2 : (xs.map (·.1))[i]? = some (opData o : DataW H) := by rw [hxs, List.getElem?_map, ho]; rfl
        rw [List.getElem?_map, hb] at h2
        simp only [Option.map_some, Option.some.injEq] at h2
        obtain ⟨b1, b2⟩ := b
        dsimp only at h2
        subst h2
        exact op_cells hf
      have hcl : cs.length = 33 := hl
      have hall : cs = opList.flatMap fun o => [Value.string (cbs o.1), .int .i64 o.2.1, .int .i64 o.2.2] := chunks _ opList cs hl key
      rw [hall]
      rfl
    · cases h

theorem own : ownKnob Tryz.prog.godebug = none := by kernel_rfl
theorem ops_of {W : World} {rest : List (String × DataW Unit)} (h : laidMet Tryz.prog (("runrig/expr.operators", Rows.laid_runrig_expr_operators) :: rest) W) : OpsIn W := by
  rw [ops_is] at h
  obtain ⟨ps, ⟨g', t', cs, fuel, p, q, hg', ht', hvar, hd, _, _⟩, _⟩ := h
  have hg : Tryz.prog.globalNamed "runrig/expr.operators" = some 6 := by kernel_rfl
  have hty : (Tryz.prog.globals[6]?).map (·.type) = some 224 := by kernel_rfl
  obtain rfl := Option.some.inj (hg.symm.trans hg')
  obtain rfl := Option.some.inj (hty.symm.trans ht')
  have hc := cells_of_ops hd
  simp only [World.var?, hg, Option.bind_some] at hvar
  split at hvar
  · rename_i cs' t fr he
    injection hvar with hvar
    refine ⟨t, fr, ?_⟩
    rw [he, ← hc, hvar]
  · cases hvar
/-- What a walk wants of the listed variables. -/
structure EnvG (w : World) : Prop where
  lex : Ln.Env w
  ops : OpsIn w
theorem EnvG.below {w w' : World} (h : EnvG w) (hb : Below w.heap.size w w') : EnvG w' :=
  ⟨h.lex.below hb, by obtain ⟨t, fr, ho⟩ := h.ops; exact ⟨t, fr, (hb.block _ (heap_lt' ho)).trans ho⟩⟩
/-- From the condition to what the walks want. -/
theorem env_of {W : World} (h : laidMetH Tryz.prog laidAll W) : EnvG W := by
  rw [MakeChecks.laidMetH_plain _ _ _ (by kernel_rfl)] at h
  have h3 := h.tail.tail.tail
  have h4 := h3.tail
  have h5 := h4.tail
  have h6 := h5.tail
  rw [show (("runrig/lex.signs", Rows.laid_runrig_lex_signs) : String × DataW Unit) = ("runrig/lex.signs", Ln.textData Ln.Lx.signs) by rw [Ln.signs_is]] at h6
  have ht := Ln.textIs_of_head (by kernel_rfl : Tryz.prog.globalNamed "runrig/lex.signs" = some 0) (by kernel_rfl : (Tryz.prog.globals[0]?).map (·.type) = some 133) Tryz.underlying133 Tryz.underlying9 (by kernel_rfl) (by kernel_rfl) h6
  obtain ⟨a1, s1, hv1, -, -, -⟩ := laid_sentinel h3 Ln.gRan Ln.gRanT Tryz.underlying130 Ln.rowE Tryz.underlying180 Tryz.underlying182 rfl rfl Tryz.underlying9 (by kernel_rfl) (by kernel_rfl)
  obtain ⟨a0, s0, hv0, -, -, -⟩ := laid_sentinel h4 Ln.gSyn Ln.gSynT Tryz.underlying130 Ln.rowE Tryz.underlying180 Tryz.underlying182 rfl rfl Tryz.underlying9 (by kernel_rfl) (by kernel_rfl)
  exact ⟨⟨⟨a0, by simpa using World.var?_cell Ln.gSyn hv0 0⟩, ⟨a1, by simpa using World.var?_cell Ln.gRan hv1 0⟩, ht⟩, ops_of h5⟩
end Go.Proofs.YtnadaedibicaaaaGreatDoor
