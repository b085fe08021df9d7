/-
  ProgOdd: texts by hand that are no programs.
-/
import Derived.Test.YtnadaedibicaaaaGreatDoorK49
import Derived.Deep.RegionHeld3
namespace Go.Proofs.YtnadaedibicaaaaGreatDoor
open Go.RowKit
open Px (RT tokAt)
open Pe
open Ps (Sm PX)
open Pg (BX Pm Rc Fc Gm)

def odT : List (List UInt8) := [[102, 117, 110, 99, 32, 40, 41, 32, 123, 32, 125], [102, 117, 110, 99, 32, 102, 40, 32, 123, 32, 125], [114, 101, 99, 111, 114, 100, 32, 123, 32, 125], [103, 108, 111, 98, 97, 108, 32, 103, 32, 105, 110, 116, 59], [102, 117, 110, 99, 32, 102, 40, 97, 58, 32, 105, 110, 116, 44, 41, 32, 123, 32, 125], [120], [102, 117, 110, 99, 32, 102, 40, 41, 32, 123, 32], [114, 101, 99, 111, 114, 100, 32, 82, 32, 123, 32, 97, 58, 32, 105, 110, 116, 32, 125], [102, 117, 110, 99, 32, 102, 40, 41, 58, 32, 123, 32, 125], [103, 108, 111, 98, 97, 108, 32, 103, 58, 32, 91, 105, 110, 116, 59], [102, 117, 110, 99, 32, 102, 40, 41, 32, 123, 32, 125, 32, 125], [114, 101, 99, 111, 114, 100, 32, 82, 32, 123, 32, 114, 101, 99, 111, 114, 100, 58, 32, 105, 110, 116, 59, 32, 125]]
def odA : List Nat := [5, 8, 7, 9, 14, 0, 11, 18, 10, 14, 13, 11]
/-- No program, this fault, there. -/
def oddB (l : List UInt8) (E F : Int) : Bool := (answer l).1.recs.isEmpty && (answer l).1.globals.isEmpty && (answer l).1.funcs.isEmpty && (answer l).2.1 == E && (answer l).2.2 == F
theorem oddB_out {l : List UInt8} {E F : Int} (h : oddB l E F = true) : answer l = (Gm.zero, E, F) := by
  unfold oddB at h
  generalize answer l = x at h ⊢
  obtain ⟨⟨a, b, c⟩, e, f⟩ := x
  simp only [Bool.and_eq_true, List.isEmpty_iff, beq_iff_eq] at h
  obtain ⟨⟨⟨⟨rfl, rfl⟩, rfl⟩, rfl⟩, rfl⟩ := h
  rfl
set_option maxRecDepth 100000 in
theorem odd_all : ((List.range 12).all fun k => oddB (odT.getD k []) 2 (odA.getD k 0 : Nat)) = true := by kernel_rfl
theorem odd_is {k : Nat} (hk : k < 12) : answer (odT.getD k []) = (Gm.zero, 2, ((odA.getD k 0 : Nat) : Int)) :=
  oddB_out (List.all_eq_true.1 odd_all k (List.mem_range.2 hk))
theorem odd_text {k : Nat} (hk : k < 12) : (#[.string ⟨#[102, 117, 110, 99, 32, 40, 41, 32, 123, 32, 125]⟩, .string ⟨#[102, 117, 110, 99, 32, 102, 40, 32, 123, 32, 125]⟩, .string ⟨#[114, 101, 99, 111, 114, 100, 32, 123, 32, 125]⟩, .string ⟨#[103, 108, 111, 98, 97, 108, 32, 103, 32, 105, 110, 116, 59]⟩, .string ⟨#[102, 117, 110, 99, 32, 102, 40, 97, 58, 32, 105, 110, 116, 44, 41, 32, 123, 32, 125]⟩, .string ⟨#[120]⟩, .string ⟨#[102, 117, 110, 99, 32, 102, 40, 41, 32, 123, 32]⟩, .string ⟨#[114, 101, 99, 111, 114, 100, 32, 82, 32, 123, 32, 97, 58, 32, 105, 110, 116, 32, 125]⟩, .string ⟨#[102, 117, 110, 99, 32, 102, 40, 41, 58, 32, 123, 32, 125]⟩, .string ⟨#[103, 108, 111, 98, 97, 108, 32, 103, 58, 32, 91, 105, 110, 116, 59]⟩, .string ⟨#[102, 117, 110, 99, 32, 102, 40, 41, 32, 123, 32, 125, 32, 125]⟩, .string ⟨#[114, 101, 99, 111, 114, 100, 32, 82, 32, 123, 32, 114, 101, 99, 111, 114, 100, 58, 32, 105, 110, 116, 59, 32, 125]⟩] : Array Value)[k]? = some (.string (cbs (odT.getD k []))) := by
  obtain rfl | rfl | rfl | rfl | rfl | rfl | rfl | rfl | rfl | rfl | rfl | rfl : k = 0 ∨ k = 1 ∨ k = 2 ∨ k = 3 ∨ k = 4 ∨ k = 5 ∨ k = 6 ∨ k = 7 ∨ k = 8 ∨ k = 9 ∨ k = 10 ∨ k = 11 := by omega
  all_goals rfl
theorem odd_place {k : Nat} (hk : k < 12) : (#[.int .i64 5, .int .i64 8, .int .i64 7, .int .i64 9, .int .i64 14, .int .i64 0, .int .i64 11, .int .i64 18, .int .i64 10, .int .i64 14, .int .i64 13, .int .i64 11] : Array Value)[k]? = some (.int .i64 ((odA.getD k 0 : Nat) : Int)) := by
  obtain rfl | rfl | rfl | rfl | rfl | rfl | rfl | rfl | rfl | rfl | rfl | rfl : k = 0 ∨ k = 1 ∨ k = 2 ∨ k = 3 ∨ k = 4 ∨ k = 5 ∨ k = 6 ∨ k = 7 ∨ k = 8 ∨ k = 9 ∨ k = 10 ∨ k = 11 := by omega
  all_goals rfl
theorem odd_size {k : Nat} (hk : k < 12) : (cbs (odT.getD k [])).size ≤ maxLen := by
  obtain rfl | rfl | rfl | rfl | rfl | rfl | rfl | rfl | rfl | rfl | rfl | rfl : k = 0 ∨ k = 1 ∨ k = 2 ∨ k = 3 ∨ k = 4 ∨ k = 5 ∨ k = 6 ∨ k = 7 ∨ k = 8 ∨ k = 9 ∨ k = 10 ∨ k = 11 := by omega
  all_goals decide
theorem stoodF : Tryz.prog.stoodInHeld 29 = false := by kernel_rfl
set_option maxHeartbeats 1000000 in
theorem eq_f2 (a b c d : Int) (w : World) : (binOp .eql 29 (.agg #[.int .i64 a, .int .i64 b]) (.agg #[.int .i64 c, .int .i64 d])).run Tryz.prog w = .ok (.bool (a == c && b == d)) w := by
  rw [run_eql_struct, run_equalIn_agg w 9999 _ _ _ (by kernel_rfl) stoodF]
  simp [go_sem]
  split <;> (try split) <;> simp_all
/-- What a program that was refused leaves in two blocks. -/
structure OddS (F P : Nat) (a b : Int) (w : World) : Prop where
  f0 : w.cell? ⟨F, 0, none⟩ = some (.int .i64 a)
  f1 : w.cell? ⟨F, 1, none⟩ = some (.int .i64 b)
  g0 : w.cell? ⟨P, 0, none⟩ = some (.slice none 0 0)
  g1 : w.cell? ⟨P, 1, none⟩ = some (.slice none 0 0)
  g2 : w.cell? ⟨P, 2, none⟩ = some (.slice none 0 0)
  lf : F < w.heap.size
  lp : P < w.heap.size
theorem OddS.go {F P : Nat} {a b : Int} {w w' : World} (h : OddS F P a b w) (hb : Below w.heap.size w w') : OddS F P a b w' :=
  ⟨(hb.cell (p := ⟨F, 0, none⟩) h.lf).trans h.f0, (hb.cell (p := ⟨F, 1, none⟩) h.lf).trans h.f1, (hb.cell (p := ⟨P, 0, none⟩) h.lp).trans h.g0, (hb.cell (p := ⟨P, 1, none⟩) h.lp).trans h.g1, (hb.cell (p := ⟨P, 2, none⟩) h.lp).trans h.g2, Nat.lt_of_lt_of_le h.lf hb.size, Nat.lt_of_lt_of_le h.lp hb.size⟩
theorem GIs.zero_out {w : World} {B : Nat} {p q r : Option Addr} {n c m d k f : Nat} (h : GIs w B Gm.zero [.slice p n c, .slice q m d, .slice r k f]) : n = 0 ∧ m = 0 ∧ k = 0 := by
  obtain ⟨q1, d1, q2, d2, q4, d4, hv, -⟩ := h
  have hv1 := (List.cons.inj hv).1
  have hv2 := (List.cons.inj (List.cons.inj hv).2).1
  have hv4 := (List.cons.inj (List.cons.inj (List.cons.inj hv).2).2).1
  injection hv1 with a1 a2 a3
  injection hv2 with a4 a5 a6
  injection hv4 with a7 a8 a9
  exact ⟨a2, a5, a8⟩

set_option maxRecDepth 8000 in
set_option maxHeartbeats 8000000 in
theorem odd5_in (w : World) (he : EnvG w) (k : Nat) (hk : k < 12) :
    Calls Tryz.prog 7 #[.int .i64 k] w fun e w' => e = .returned (.bool true) ∧ Below w.heap.size w w' := by
  obtain ⟨wa, hwa⟩ : ∃ wa, wa = (w.alloc (.cells #[.string ⟨#[102, 117, 110, 99, 32, 40, 41, 32, 123, 32, 125]⟩, .string ⟨#[102, 117, 110, 99, 32, 102, 40, 32, 123, 32, 125]⟩, .string ⟨#[114, 101, 99, 111, 114, 100, 32, 123, 32, 125]⟩, .string ⟨#[103, 108, 111, 98, 97, 108, 32, 103, 32, 105, 110, 116, 59]⟩, .string ⟨#[102, 117, 110, 99, 32, 102, 40, 97, 58, 32, 105, 110, 116, 44, 41, 32, 123, 32, 125]⟩, .string ⟨#[120]⟩, .string ⟨#[102, 117, 110, 99, 32, 102, 40, 41, 32, 123, 32]⟩, .string ⟨#[114, 101, 99, 111, 114, 100, 32, 82, 32, 123, 32, 97, 58, 32, 105, 110, 116, 32, 125]⟩, .string ⟨#[102, 117, 110, 99, 32, 102, 40, 41, 58, 32, 123, 32, 125]⟩, .string ⟨#[103, 108, 111, 98, 97, 108, 32, 103, 58, 32, 91, 105, 110, 116, 59]⟩, .string ⟨#[102, 117, 110, 99, 32, 102, 40, 41, 32, 123, 32, 125, 32, 125]⟩, .string ⟨#[114, 101, 99, 111, 114, 100, 32, 82, 32, 123, 32, 114, 101, 99, 111, 114, 100, 58, 32, 105, 110, 116, 59, 32, 125]⟩] 9)).alloc (.cells #[.int .i64 5, .int .i64 8, .int .i64 7, .int .i64 9, .int .i64 14, .int .i64 0, .int .i64 11, .int .i64 18, .int .i64 10, .int .i64 14, .int .i64 13, .int .i64 11] 3) := ⟨_, rfl⟩
  have hba : Below w.heap.size w wa := by rw [hwa]; exact ((Below.refl _ _).alloc (Nat.le_refl _) _).alloc (by rw [size_alloc]; omega) _
  have hrS : wa.heap[w.heap.size]? = some (.cells #[.string ⟨#[102, 117, 110, 99, 32, 40, 41, 32, 123, 32, 125]⟩, .string ⟨#[102, 117, 110, 99, 32, 102, 40, 32, 123, 32, 125]⟩, .string ⟨#[114, 101, 99, 111, 114, 100, 32, 123, 32, 125]⟩, .string ⟨#[103, 108, 111, 98, 97, 108, 32, 103, 32, 105, 110, 116, 59]⟩, .string ⟨#[102, 117, 110, 99, 32, 102, 40, 97, 58, 32, 105, 110, 116, 44, 41, 32, 123, 32, 125]⟩, .string ⟨#[120]⟩, .string ⟨#[102, 117, 110, 99, 32, 102, 40, 41, 32, 123, 32]⟩, .string ⟨#[114, 101, 99, 111, 114, 100, 32, 82, 32, 123, 32, 97, 58, 32, 105, 110, 116, 32, 125]⟩, .string ⟨#[102, 117, 110, 99, 32, 102, 40, 41, 58, 32, 123, 32, 125]⟩, .string ⟨#[103, 108, 111, 98, 97, 108, 32, 103, 58, 32, 91, 105, 110, 116, 59]⟩, .string ⟨#[102, 117, 110, 99, 32, 102, 40, 41, 32, 123, 32, 125, 32, 125]⟩, .string ⟨#[114, 101, 99, 111, 114, 100, 32, 82, 32, 123, 32, 114, 101, 99, 111, 114, 100, 58, 32, 105, 110, 116, 59, 32, 125]⟩] 9 (0, 0)) := by rw [hwa]; exact alloc_box _ (heap_alloc_new w _)
  have hrI : wa.heap[w.heap.size + 1]? = some (.cells #[.int .i64 5, .int .i64 8, .int .i64 7, .int .i64 9, .int .i64 14, .int .i64 0, .int .i64 11, .int .i64 18, .int .i64 10, .int .i64 14, .int .i64 13, .int .i64 11] 3 (0, 0)) := by rw [hwa]; have := heap_alloc_new (w.alloc (.cells #[.string ⟨#[102, 117, 110, 99, 32, 40, 41, 32, 123, 32, 125]⟩, .string ⟨#[102, 117, 110, 99, 32, 102, 40, 32, 123, 32, 125]⟩, .string ⟨#[114, 101, 99, 111, 114, 100, 32, 123, 32, 125]⟩, .string ⟨#[103, 108, 111, 98, 97, 108, 32, 103, 32, 105, 110, 116, 59]⟩, .string ⟨#[102, 117, 110, 99, 32, 102, 40, 97, 58, 32, 105, 110, 116, 44, 41, 32, 123, 32, 125]⟩, .string ⟨#[120]⟩, .string ⟨#[102, 117, 110, 99, 32, 102, 40, 41, 32, 123, 32]⟩, .string ⟨#[114, 101, 99, 111, 114, 100, 32, 82, 32, 123, 32, 97, 58, 32, 105, 110, 116, 32, 125]⟩, .string ⟨#[102, 117, 110, 99, 32, 102, 40, 41, 58, 32, 123, 32, 125]⟩, .string ⟨#[103, 108, 111, 98, 97, 108, 32, 103, 58, 32, 91, 105, 110, 116, 59]⟩, .string ⟨#[102, 117, 110, 99, 32, 102, 40, 41, 32, 123, 32, 125, 32, 125]⟩, .string ⟨#[114, 101, 99, 111, 114, 100, 32, 82, 32, 123, 32, 114, 101, 99, 111, 114, 100, 58, 32, 105, 110, 116, 59, 32, 125]⟩] 9)) (.cells #[.int .i64 5, .int .i64 8, .int .i64 7, .int .i64 9, .int .i64 14, .int .i64 0, .int .i64 11, .int .i64 18, .int .i64 10, .int .i64 14, .int .i64 13, .int .i64 11] 3); rw [size_alloc] at this; exact this
  have hcT : wa.cell? ⟨w.heap.size, k, none⟩ = some (.string (cbs (odT.getD k []))) := by rw [cell_of_row _ _ _ _ _ _ hrS]; exact odd_text hk
  have HRI := Lib.hid hrI
  have HBA := Lib.hid hba
  have HE := Lib.hid he
  have hpa := parse_at (cbs (odT.getD k [])) (odd_size hk) wa (he.below hba)
  rw [show (cbs (odT.getD k [])).data.toList = odT.getD k [] from rfl, odd_is hk] at hpa
  have HPA := Lib.hid hpa
  have hd1 : decide ((k : Int) < 0) = false := decide_eq_false (by omega)
  have hd2 : decide ((12 : Int) ≤ (k : Int)) = false := decide_eq_false (by omega)
  have hd3 : decide (12 ≤ k) = false := decide_eq_false (by omega)
  have hki : (k : Int) < 12 := by omega
  obtain ⟨a, ha⟩ : ∃ a : Nat, odA.getD k 0 = a := ⟨_, rfl⟩
  have HPL := Lib.hid (show (#[.int .i64 5, .int .i64 8, .int .i64 7, .int .i64 9, .int .i64 14, .int .i64 0, .int .i64 11, .int .i64 18, .int .i64 10, .int .i64 14, .int .i64 13, .int .i64 11] : Array Value)[k]? = some (.int .i64 (a : Int)) by rw [← ha]; exact odd_place hk)
  rw [ha] at HPA
  have hel : ∀ h, ([.string ⟨#[102, 117, 110, 99, 32, 40, 41, 32, 123, 32, 125]⟩, .string ⟨#[102, 117, 110, 99, 32, 102, 40, 32, 123, 32, 125]⟩, .string ⟨#[114, 101, 99, 111, 114, 100, 32, 123, 32, 125]⟩, .string ⟨#[103, 108, 111, 98, 97, 108, 32, 103, 32, 105, 110, 116, 59]⟩, .string ⟨#[102, 117, 110, 99, 32, 102, 40, 97, 58, 32, 105, 110, 116, 44, 41, 32, 123, 32, 125]⟩, .string ⟨#[120]⟩, .string ⟨#[102, 117, 110, 99, 32, 102, 40, 41, 32, 123, 32]⟩, .string ⟨#[114, 101, 99, 111, 114, 100, 32, 82, 32, 123, 32, 97, 58, 32, 105, 110, 116, 32, 125]⟩, .string ⟨#[102, 117, 110, 99, 32, 102, 40, 41, 58, 32, 123, 32, 125]⟩, .string ⟨#[103, 108, 111, 98, 97, 108, 32, 103, 58, 32, 91, 105, 110, 116, 59]⟩, .string ⟨#[102, 117, 110, 99, 32, 102, 40, 41, 32, 123, 32, 125, 32, 125]⟩, .string ⟨#[114, 101, 99, 111, 114, 100, 32, 82, 32, 123, 32, 114, 101, 99, 111, 114, 100, 58, 32, 105, 110, 116, 59, 32, 125]⟩] : List Value)[k]'h = .string (cbs (odT.getD k [])) := fun h => by
    have h2 := odd_text hk
    rw [List.getElem?_toArray, List.getElem?_eq_getElem h] at h2
    exact Option.some.inj h2
  generalize cbs (odT.getD k []) = tx at hcT HPA hel
  clear he hba hrS hrI hpa ha
  go_enter Tryz.func7, Tryz.ntmps7
  go_wp2_with fail
  try rw [hel]
  rw [← hwa]
  clear hwa hcT hel
  refine HPA.out.mono ?_
  rintro e w1 ⟨q1, n1, e1, q2, n2, e2, q4, n4, e4, rfl, hgi, hb1⟩
  obtain ⟨rfl, rfl, rfl⟩ := hgi.zero_out
  have HB1 := Lib.hid (below_seq HBA.out hb1 HBA.out.size)
  have HRI1 := Lib.hid ((hb1.block _ (heap_lt' HRI.out)).trans HRI.out)
  clear hgi hb1 HRI HPA
  go_wp2_with fail
  obtain ⟨wc, hwc⟩ : ∃ wc, wc = (w1.alloc (.cells #[.slice q1 0 e1, .slice q2 0 e2, .slice q4 0 e4] 26)).alloc (.cells #[.int .i64 2, .int .i64 (a : Int)] 29) := ⟨_, rfl⟩
  rw [← hwc]
  have hbc : Below w1.heap.size w1 wc := by rw [hwc]; exact ((Below.refl _ _).alloc (Nat.le_refl _) _).alloc (by rw [size_alloc]; omega) _
  have hkP : wc.heap[w1.heap.size]? = some (.cells #[.slice q1 0 e1, .slice q2 0 e2, .slice q4 0 e4] 26 (0, 0)) := by rw [hwc]; exact alloc_box _ (heap_alloc_new w1 _)
  have hkF : wc.heap[w1.heap.size + 1]? = some (.cells #[.int .i64 2, .int .i64 (a : Int)] 29 (0, 0)) := by rw [hwc]; have := heap_alloc_new (w1.alloc (.cells #[.slice q1 0 e1, .slice q2 0 e2, .slice q4 0 e4] 26)) (.cells #[.int .i64 2, .int .i64 (a : Int)] 29); rw [size_alloc] at this; exact this
  have hkI := (hbc.block _ (heap_lt' HRI1.out)).trans HRI1.out
  have HB2 := Lib.hid (below_seq HB1.out hbc HB1.out.size)
  have HS : Hid (∀ w' : World, Below wc.heap.size wc w' → w'.cell? ⟨w1.heap.size + 1, 0, none⟩ = some (.int .i64 2) ∧ w'.cell? ⟨w1.heap.size + 1, 1, none⟩ = some (.int .i64 (a : Int)) ∧ w'.cell? ⟨w1.heap.size, 0, none⟩ = some (.slice q1 0 e1) ∧ w'.cell? ⟨w1.heap.size, 1, none⟩ = some (.slice q2 0 e2) ∧ w'.cell? ⟨w1.heap.size, 2, none⟩ = some (.slice q4 0 e4) ∧ w'.cell? ⟨w.heap.size + 1, k, none⟩ = some (.int .i64 (a : Int))) := Lib.hid fun w' hb => by
    obtain ⟨⟨x0, x1, x2⟩, -⟩ := tri ((hb.block _ (heap_lt' hkP)).trans hkP)
    obtain ⟨⟨y0, y1⟩, -⟩ := duo ((hb.block _ (heap_lt' hkF)).trans hkF)
    exact ⟨y0, y1, x0, x1, x2, by rw [cell_of_row _ _ _ _ _ _ ((hb.block _ (heap_lt' hkI)).trans hkI)]; exact HPL.out⟩
  have HD1 : Hid (Below wc.heap.size wc wc.drew) := (Below.refl _ _).drew
  have hEq : ∀ w1, (binOp .eql 29 (.agg #[.int .i64 2, .int .i64 (a : Int)]) (.agg #[.int .i64 2, .int .i64 (a : Int)])).run Tryz.prog w1 = .ok (.bool true) w1 := fun w1 => by rw [eq_f2]; simp
  obtain ⟨s0, s1, s2, s3, s4, s5⟩ := HS.out _ HD1.out
  clear hwc hbc hkP hkF hkI
  go_region_held3 (fun w' => w'.cell? ⟨w1.heap.size + 1, 0, none⟩ = some (.int .i64 2) ∧ w'.cell? ⟨w1.heap.size + 1, 1, none⟩ = some (.int .i64 (a : Int)) ∧ w'.cell? ⟨w1.heap.size, 0, none⟩ = some (.slice q1 0 e1) ∧ w'.cell? ⟨w1.heap.size, 1, none⟩ = some (.slice q2 0 e2) ∧ w'.cell? ⟨w1.heap.size, 2, none⟩ = some (.slice q4 0 e4) ∧ w'.cell? ⟨w.heap.size + 1, k, none⟩ = some (.int .i64 (a : Int))) (first | exact HS.out _ HD1.out | exact HS.out _ HB4.out) (first
    | (go_at_call 12; (refine Calls.mono (known5_any _ (HE.out.below (below_seq HB2.out HD1.out HB2.out.size))) ?_); rintro e w4 ⟨rfl, hb4⟩; have HB4 := Lib.hid (below_seq HD1.out hb4 HD1.out.size); clear hb4))
  all_goals
    go_wp2_with fail
    go_ret
    exact ⟨rfl, below_seq HB2.out HB4.out HB2.out.size⟩

set_option maxRecDepth 8000 in
set_option maxHeartbeats 8000000 in
theorem progOdd_walk (i : Int) (_ : -9223372036854775808 ≤ i ∧ i ≤ 9223372036854775807) (w : World) (he : EnvG w) :
    Calls Tryz.prog 7 #[.int .i64 i] w fun e w' => e = .returned (.bool true) ∧ Below w.heap.size w w' := by
  by_cases h : i < 0 ∨ 12 ≤ i
  · have hbb : Below w.heap.size w ((w.alloc (.cells #[.string ⟨#[102, 117, 110, 99, 32, 40, 41, 32, 123, 32, 125]⟩, .string ⟨#[102, 117, 110, 99, 32, 102, 40, 32, 123, 32, 125]⟩, .string ⟨#[114, 101, 99, 111, 114, 100, 32, 123, 32, 125]⟩, .string ⟨#[103, 108, 111, 98, 97, 108, 32, 103, 32, 105, 110, 116, 59]⟩, .string ⟨#[102, 117, 110, 99, 32, 102, 40, 97, 58, 32, 105, 110, 116, 44, 41, 32, 123, 32, 125]⟩, .string ⟨#[120]⟩, .string ⟨#[102, 117, 110, 99, 32, 102, 40, 41, 32, 123, 32]⟩, .string ⟨#[114, 101, 99, 111, 114, 100, 32, 82, 32, 123, 32, 97, 58, 32, 105, 110, 116, 32, 125]⟩, .string ⟨#[102, 117, 110, 99, 32, 102, 40, 41, 58, 32, 123, 32, 125]⟩, .string ⟨#[103, 108, 111, 98, 97, 108, 32, 103, 58, 32, 91, 105, 110, 116, 59]⟩, .string ⟨#[102, 117, 110, 99, 32, 102, 40, 41, 32, 123, 32, 125, 32, 125]⟩, .string ⟨#[114, 101, 99, 111, 114, 100, 32, 82, 32, 123, 32, 114, 101, 99, 111, 114, 100, 58, 32, 105, 110, 116, 59, 32, 125]⟩] 9)).alloc (.cells #[.int .i64 5, .int .i64 8, .int .i64 7, .int .i64 9, .int .i64 14, .int .i64 0, .int .i64 11, .int .i64 18, .int .i64 10, .int .i64 14, .int .i64 13, .int .i64 11] 3)) := ((Below.refl _ _).alloc (Nat.le_refl _) _).alloc (by rw [size_alloc]; omega) _
    have HBB := Lib.hid hbb
    clear hbb he
    by_cases h0 : i < 0
    · have hd1 : decide (i < 0) = true := decide_eq_true h0
      clear h h0
      go_enter Tryz.func7, Tryz.ntmps7
      go_wp2_with fail
      go_ret
      exact ⟨rfl, HBB.out⟩
    · have hd1 : decide (i < 0) = false := decide_eq_false h0
      have hd2 : decide ((12 : Int) ≤ i) = true := decide_eq_true (by omega)
      clear h h0
      go_enter Tryz.func7, Tryz.ntmps7
      go_wp2_with fail
      go_ret
      exact ⟨rfl, HBB.out⟩
  · obtain ⟨k, rfl⟩ : ∃ k : Nat, i = k := ⟨i.toNat, by omega⟩
    exact odd5_in w he k (by omega)
end Go.Proofs.YtnadaedibicaaaaGreatDoor
