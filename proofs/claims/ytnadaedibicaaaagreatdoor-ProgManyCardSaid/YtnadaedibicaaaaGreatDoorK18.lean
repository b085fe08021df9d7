/-
  The contracts of the project's reader: which binary sign comes next.
-/
import Derived.Test.YtnadaedibicaaaaGreatDoorK10
import Derived.Lib.LaidTab
import Derived.LaidMore
import Derived.OpenShut
import Derived.Deep.RegionHeld3
import Derived.Deep.LoopGhost
import Derived.Deep.MidRow
namespace Go.Proofs.YtnadaedibicaaaaGreatDoor
open Go.RowKit
open Px (RT tokAt)
open Pe

def opV : Option Int → Value
  | some k => .tuple #[.int .i64 k, .bool true]
  | none => .tuple #[.int .i64 0, .bool false]
theorem infoOps : (Tryz.prog.info? 224).map (·.size) = some opsV.size := by kernel_rfl
set_option maxRecDepth 100000 in
theorem index_ops : ∀ (j : Nat) (o : List UInt8 × Int × Int), opList[j]? = some o → ∀ w, (Instr.index 224 (.agg opsV) (.int .i64 (j : Int))).run Tryz.prog w = .ok (.agg #[.string (cbs o.1), .int .i64 o.2.1, .int .i64 o.2.2]) w
  | 0, o, h => by
    simp only [opList, List.getElem?_cons_zero, Option.some.injEq] at h
    subst h
    exact fun _ => by kernel_rfl
  | 1, o, h => by
    simp only [opList, List.getElem?_cons_zero, List.getElem?_cons_succ, Option.some.injEq] at h
    subst h
    exact fun _ => by kernel_rfl
  | 2, o, h => by
    simp only [opList, List.getElem?_cons_zero, List.getElem?_cons_succ, Option.some.injEq] at h
    subst h
    exact fun _ => by kernel_rfl
  | 3, o, h => by
    simp only [opList, List.getElem?_cons_zero, List.getElem?_cons_succ, Option.some.injEq] at h
    subst h
    exact fun _ => by kernel_rfl
  | 4, o, h => by
    simp only [opList, List.getElem?_cons_zero, List.getElem?_cons_succ, Option.some.injEq] at h
    subst h
    exact fun _ => by kernel_rfl
  | 5, o, h => by
    simp only [opList, List.getElem?_cons_zero, List.getElem?_cons_succ, Option.some.injEq] at h
    subst h
    exact fun _ => by kernel_rfl
  | 6, o, h => by
    simp only [opList, List.getElem?_cons_zero, List.getElem?_cons_succ, Option.some.injEq] at h
    subst h
    exact fun _ => by kernel_rfl
  | 7, o, h => by
    simp only [opList, List.getElem?_cons_zero, List.getElem?_cons_succ, Option.some.injEq] at h
    subst h
    exact fun _ => by kernel_rfl
  | 8, o, h => by
    simp only [opList, List.getElem?_cons_zero, List.getElem?_cons_succ, Option.some.injEq] at h
    subst h
    exact fun _ => by kernel_rfl
  | 9, o, h => by
    simp only [opList, List.getElem?_cons_zero, List.getElem?_cons_succ, Option.some.injEq] at h
    subst h
    exact fun _ => by kernel_rfl
  | 10, o, h => by
    simp only [opList, List.getElem?_cons_zero, List.getElem?_cons_succ, Option.some.injEq] at h
    subst h
    exact fun _ => by kernel_rfl
  | j + 11, o, h => by simp [opList] at h
theorem drop_cons {j : Nat} {o : List UInt8 × Int × Int} (h : opList[j]? = some o) : opList.drop j = o :: opList.drop (j + 1) := by
  obtain ⟨hl, he⟩ := List.getElem?_eq_some_iff.1 h
  rw [List.drop_eq_getElem_cons hl, he]
theorem trio {w1 : World} {B : Nat} {T : TypeId} {a b c : Value} (h : w1.heap[B]? = some (.cells #[a, b, c] T (0, 0))) :
    w1.cell? ⟨B, 0, none⟩ = some a ∧ w1.cell? ⟨B, 1, none⟩ = some b ∧ w1.cell? ⟨B, 2, none⟩ = some c :=
  ⟨by rw [cell_of_row _ _ _ _ _ _ h]; rfl, by rw [cell_of_row _ _ _ _ _ _ h]; rfl, by rw [cell_of_row _ _ _ _ _ _ h]; rfl⟩


set_option maxRecDepth 8000 in
set_option maxHeartbeats 2000000 in
theorem seesOp_any (w : World) (R M1 M2 M3 : Nat) (S : Value) (ts : List RT) (s : St) (h : Rs w R M1 M2 M3 S ts s) (n : Nat) :
    Calls Tryz.prog 189 #[.pointer (some ⟨R, 0, none⟩), .int .i64 (n : Int)] w (fun e w' => e = .returned (opV (seesOp ts s.c n)) ∧ Below w.heap.size w w') := by
  obtain ⟨gt, gfr, hg⟩ := h.ops
  have HH := Lib.hid h
  clear h
  go_enter Tryz.func189, Tryz.ntmps189
  go_wp2_with (with_reducible refine wpList_load_row rfl 224 (.global 6) rfl 6 rfl gt opsV gfr _ ?c1 Tryz.underlying224 rfl infoOps ?_)
  case c1 => exact hg
  clear hg
  go_loopg [9] 11 (fun k v wr => ∃ j : Nat, k + j = 11 ∧ v = .int .i64 (j : Int) ∧ Below w.heap.size w wr ∧ (((opList.drop j).find? fun o => decide (o.2.1 = (n : Int)) && sees ts s.c 4 o.1).map (·.2.2)) = seesOp ts s.c n)
  case atStart => exact ⟨0, rfl, rfl, Below.refl _ _, rfl⟩
  case round =>
    obtain ⟨j, hj, rfl, hb, hf⟩ := hrel
    have HB := Lib.hid hb
    have HF := Lib.hid hf
    clear hb hf
    cases gk with
    | zero =>
      have hj2 : j = 11 := by omega
      subst hj2
      go_wp2_with fail
      refine bodyPost_ret (v := .tuple #[.int .i64 0, .bool false]) (by simp [results, Tryz.results189, go_sem]) rfl ⟨?_, HB.out⟩
      rw [← HF.out]
      rfl
    | succ m =>
      have hj2 : j < 11 := by omega
      obtain ⟨o, ho⟩ : ∃ o, opList[j]? = some o := ⟨_, List.getElem?_eq_getElem (by simpa [opList] using hj2)⟩
      have hix := index_ops j o ho
      have HD := Lib.hid (drop_cons ho)
      clear ho
      obtain ⟨tx, lv, kd⟩ := o
      dsimp only at hix
      have hd0 : decide ((j : Int) < 11) = true := decide_eq_true (by omega)
      have hdw : wrap64 ((j : Int) + 1) = ((j + 1 : Nat) : Int) := by simp [wrap64]; omega
      have HRD := Lib.hid (HH.out.go (below_seq HB.out (((Below.refl wr.heap.size wr).alloc (Nat.le_refl _) (.cells #[.string (cbs tx), .int .i64 lv, .int .i64 kd] 223)).drew) HB.out.size))
      cases hd : (lv == (n : Int))
      · have HL := Lib.hid hd
        go_wp2_with fail
        go_quiet (fail)
        go_wp2_with fail
        go_roundg m
        case measure => omega
        case rel =>
          refine ⟨j + 1, by omega, by first | rfl | simp, drawn_bl (HB.out.alloc HB.out.size _) _, ?_⟩
          rw [← HF.out, HD.out, List.find?_cons_of_neg]
          rw [show decide (lv = (n : Int)) = false from HL.out]
          simp
      · have HL := Lib.hid hd
        have HKX : Hid (((wr.alloc (.cells #[.string (cbs tx), .int .i64 lv, .int .i64 kd] 223)).drew).heap[wr.heap.size]? = some (.cells #[.string (cbs tx), .int .i64 lv, .int .i64 kd] 223 (0, 0))) := heap_alloc_new wr _
        have HBX := Lib.hid (below_seq HB.out (((Below.refl wr.heap.size wr).alloc (Nat.le_refl _) (.cells #[.string (cbs tx), .int .i64 lv, .int .i64 kd] 223)).drew) HB.out.size)
        have HTX := Lib.hid (show (cbs tx).data.toList = tx from rfl)
        cases hv : sees ts s.c 4 tx
        · have HV := Lib.hid hv
          clear hv
          go_wp2_with fail
          go_region_held3 (fun w' => w'.cell? ⟨wr.heap.size, 0, none⟩ = some (.string (cbs tx)) ∧ w'.cell? ⟨wr.heap.size, 1, none⟩ = some (.int .i64 lv)) (with_reducible first | exact ⟨(trio HKX.out).1, (trio HKX.out).2.1⟩ | exact ⟨(trio HK2.out).1, (trio HK2.out).2.1⟩) (first
            | (go_at_call 75; (with_reducible refine Calls.mono (seesSign_any _ R _ S _ ts s.c HRD.out.cu (cbs tx)) ?_); rintro e w2 ⟨rfl, hb2⟩; have HB2 := Lib.hid (below_seq HBX.out hb2 HBX.out.size); have HK2 := Lib.hid ((Gr.of (R := R) hb2).block _ (heap_lt' HKX.out) (Nat.ne_of_gt (Nat.lt_of_lt_of_le HH.out.lt HB.out.size)) |>.trans HKX.out); clear hb2; rw [HTX.out, HV.out]))
          go_wp2_with fail
          go_roundg m
          case measure => omega
          case rel =>
            refine ⟨j + 1, by omega, by first | rfl | simp, HB2.out, ?_⟩
            rw [← HF.out, HD.out, List.find?_cons_of_neg]
            rw [show decide (lv = (n : Int)) = true from HL.out, HV.out]
            simp
        · have HV := Lib.hid hv
          clear hv
          go_wp2_with fail
          go_region_held3 (fun w' => w'.cell? ⟨wr.heap.size, 0, none⟩ = some (.string (cbs tx)) ∧ w'.cell? ⟨wr.heap.size, 1, none⟩ = some (.int .i64 lv)) (with_reducible first | exact ⟨(trio HKX.out).1, (trio HKX.out).2.1⟩ | exact ⟨(trio HK2.out).1, (trio HK2.out).2.1⟩) (first
            | (go_at_call 75; (with_reducible refine Calls.mono (seesSign_any _ R _ S _ ts s.c HRD.out.cu (cbs tx)) ?_); rintro e w2 ⟨rfl, hb2⟩; have HB2 := Lib.hid (below_seq HBX.out hb2 HBX.out.size); have HK2 := Lib.hid ((Gr.of (R := R) hb2).block _ (heap_lt' HKX.out) (Nat.ne_of_gt (Nat.lt_of_lt_of_le HH.out.lt HB.out.size)) |>.trans HKX.out); clear hb2; rw [HTX.out, HV.out]))
          obtain ⟨u0, u1, u2⟩ := trio HK2.out
          go_wp2_with fail
          refine bodyPost_ret (v := .tuple #[.int .i64 kd, .bool true]) (by simp [results, Tryz.results189, go_sem]) rfl ⟨?_, HB2.out⟩
          rw [← HF.out, HD.out, List.find?_cons_of_pos]
          · rfl
          · rw [show decide (lv = (n : Int)) = true from HL.out, HV.out]; rfl
end Go.Proofs.YtnadaedibicaaaaGreatDoor
