/-
  ProgMany: as many declarations, fields, parameters as may be, and one more.
-/
import Derived.Test.YtnadaedibicaaaaGreatDoorK50
import Derived.Laws.BytesArg
namespace Go.Proofs.YtnadaedibicaaaaGreatDoor
open Go.RowKit
open Px (RT tokAt)
open Pe
open Ps (Sm PX)
open Pg (BX Pm Rc Fc Gm)

/-- So many of a piece, with letters in it. -/
def manyL (a b : List UInt8) : Nat → List UInt8
  | 0 => []
  | n + 1 => manyL a b n ++ a ++ [UInt8.ofNat (97 + n)] ++ b
theorem manyL_len (a b : List UInt8) : ∀ n, (manyL a b n).length = n * (a.length + 1 + b.length)
  | 0 => by simp [manyL]
  | n + 1 => by simp [manyL, manyL_len a b n, Nat.add_mul]; omega
/-- The text of a law's way, its limit, a piece's length, what stands ahead. -/
def mtext (way n : Nat) : List UInt8 :=
  match way with
  | 0 => manyL [114, 101, 99, 111, 114, 100, 32] [32, 123, 32, 125, 32] n
  | 1 => manyL [103, 108, 111, 98, 97, 108, 32] [58, 32, 105, 110, 116, 59, 32] n
  | 2 => manyL [102, 117, 110, 99, 32] [40, 41, 32, 123, 32, 125, 32] n
  | 3 => [114, 101, 99, 111, 114, 100, 32, 82, 32, 123, 32] ++ manyL [] [58, 32, 105, 110, 116, 59, 32] n ++ [125]
  | _ => [102, 117, 110, 99, 32, 102, 40] ++ (manyL [] [58, 32, 105, 110, 116, 44, 32] n).take ((manyL [] [58, 32, 105, 110, 116, 44, 32] n).length - 2) ++ [41, 32, 123, 32, 125]
def mmost : Nat → Nat | 0 => 12 | 1 => 8 | 2 => 16 | 3 => 8 | _ => 6
def mone : Nat → Nat | 0 => 13 | 1 => 15 | 2 => 13 | _ => 8
def mahead : Nat → Nat | 3 => 11 | 4 => 7 | _ => 0
def pmB (l : List Pm) (n : Nat) : Bool := l.length == n
/-- What the law asks of an answer. -/
def manyB (way n : Nat) : Bool :=
  if mmost way < n then oddB (mtext way n) 4 (mahead way + mmost way * mone way : Nat)
  else (answer (mtext way n)).2.1 == 0 && (match way with
    | 3 => (answer (mtext way n)).1.recs.length == 1 && ((answer (mtext way n)).1.recs.head?.elim false fun r => r.fields.length == n)
    | 4 => (answer (mtext way n)).1.funcs.length == 1 && ((answer (mtext way n)).1.funcs.head?.elim false fun r => r.params.length == n)
    | _ => (answer (mtext way n)).1.recs.length + (answer (mtext way n)).1.globals.length + (answer (mtext way n)).1.funcs.length == n)
set_option maxRecDepth 100000 in
theorem many_all0 : ((List.range 21).all fun n => manyB 0 n) = true := by kernel_rfl
set_option maxRecDepth 100000 in
theorem many_all1 : ((List.range 21).all fun n => manyB 1 n) = true := by kernel_rfl
set_option maxRecDepth 100000 in
theorem many_all2 : ((List.range 21).all fun n => manyB 2 n) = true := by kernel_rfl
set_option maxRecDepth 100000 in
theorem many_all3 : ((List.range 21).all fun n => manyB 3 n) = true := by kernel_rfl
set_option maxRecDepth 100000 in
theorem many_all4 : ((List.range 21).all fun n => manyB 4 n) = true := by kernel_rfl

theorem conv_letter (wr : World) (j : Nat) : (convert 86 9 (.slice (some ⟨wr.heap.size, 0, none⟩) 1 1)).run Tryz.prog (wr.alloc (.cells #[.int .u8 (97 + (j : Int))] 5)) = .ok (.string (cbs [UInt8.ofNat (97 + j)])) (wr.alloc (.cells #[.int .u8 (97 + (j : Int))] 5)) := by
  rw [run_convert_bytes_arg (wr.alloc (.cells #[.int .u8 (97 + (j : Int))] 5)) 86 5 Tryz.underlying86 Tryz.underlying5 wr.heap.size 0 1 1 [97 + (j : Int)] rfl (fun i hi => by
    obtain rfl : i = 0 := by omega
    rw [cell_of_row _ _ _ _ _ _ (heap_alloc_new wr _)]; rfl) 9 Tryz.underlying9]
  have : (97 + (j : Int)).toNat = 97 + j := by omega
  rw [show strOfNums [97 + (j : Int)] = cbs [UInt8.ofNat (97 + (j : Int)).toNat] from rfl, this]
theorem cat_cbs (a b : List UInt8) : cbs a ++ cbs b = cbs (a ++ b) := by
  apply ByteArray.ext
  rw [ByteArray.data_append]
  simp [cbs]
set_option maxRecDepth 8000 in
set_option maxHeartbeats 4000000 in
theorem many_any (w : World) (n : Nat) (hn : n ≤ 20) (a b : List UInt8) (ha : a.length ≤ 20) (hb : b.length ≤ 20) :
    Calls Tryz.prog 15 #[.int .i64 n, .string (cbs a), .string (cbs b)] w fun e w' => e = .returned (.string (cbs (manyL a b n))) ∧ Below w.heap.size w w' := by
  have HN := Lib.hid hn
  have HA := Lib.hid ha
  have HB := Lib.hid hb
  clear hn ha hb
  go_enter Tryz.func15, Tryz.ntmps15
  go_wp2_with fail
  go_loopg [7, 8] n (fun m s i wr => ∃ j : Nat, m + j = n ∧ s = .string (cbs (manyL a b j)) ∧ i = .int .i64 (j : Int) ∧ Below w.heap.size w wr)
  case atStart => exact ⟨0, rfl, rfl, rfl, Below.refl _ _⟩
  case round =>
    obtain ⟨j, hj, rfl, rfl, hbel⟩ := hrel
    have HJ := Lib.hid hj
    have HBL := Lib.hid hbel
    clear hj hbel
    cases gk with
    | zero =>
      obtain rfl : j = n := by have := HJ.out; omega
      have hd1 : decide ((j : Int) < (j : Int)) = false := decide_eq_false (by omega)
      go_wp2_with fail
      go_ret
      exact ⟨rfl, HBL.out⟩
    | succ m =>
      have hjn : j < n := by have := HJ.out; omega
      have hd1 : decide ((j : Int) < (n : Int)) = true := decide_eq_true (by omega)
      have hN := HN.out
      have h20 : j < 20 := by omega
      obtain ⟨x, hx⟩ : ∃ x : UInt8, x = UInt8.ofNat (97 + j) := ⟨_, rfl⟩
      have hw1 : wrap64 (97 + (j : Int)) = 97 + (j : Int) := by simp [wrap64]; omega
      have hw2 : wrap64 ((j : Int) + 1) = ((j + 1 : Nat) : Int) := by simp [wrap64]; omega
      have hlen := manyL_len a b j
      have hsz : (cbs (manyL a b j)).size = j * (a.length + 1 + b.length) := by rw [← hlen]; rfl
      have hsa : (cbs a).size = a.length := rfl
      have hsb : (cbs b).size = b.length := rfl
      have hm : j * (a.length + 1 + b.length) ≤ 20 * 41 := Nat.mul_le_mul (by omega) (by have := HA.out; have := HB.out; omega)
      have hz1 : (cbs (manyL a b j)).size + (cbs a).size ≤ 9223372036854775807 := by rw [hsz, hsa]; have := HA.out; omega
      have hs1 : (cbs [x]).size = 1 := rfl
      have hz2 : (cbs (manyL a b j) ++ cbs a).size + (cbs [x]).size ≤ 9223372036854775807 := by rw [ByteArray.size_append, hsz, hsa, hs1]; have := HA.out; omega
      have hz3 : (cbs (manyL a b j) ++ cbs a ++ cbs [x]).size + (cbs b).size ≤ 9223372036854775807 := by rw [ByteArray.size_append, ByteArray.size_append, hsz, hsa, hs1, hsb]; have := HA.out; have := HB.out; omega
      have hconv := conv_letter wr j
      rw [← hx] at hconv
      have HX := Lib.hid (show cbs (manyL a b j) ++ cbs a ++ cbs [x] ++ cbs b = cbs (manyL a b (j + 1)) by rw [cat_cbs, cat_cbs, cat_cbs, manyL, hx])
      clear hlen hN hx hsz hsa hsb hs1 hm
      go_wp2_with fail
      go_roundg m
      case measure => omega
      case rel => exact ⟨j + 1, by have := HJ.out; omega, by rw [← HX.out], by first | rfl | simp [hw2], HBL.out.alloc HBL.out.size _⟩
theorem manyB_over {way n : Nat} (h : manyB way n = true) (hn : mmost way < n) : answer (mtext way n) = (Gm.zero, 4, ((mahead way + mmost way * mone way : Nat) : Int)) := by
  unfold manyB at h
  rw [if_pos hn] at h
  exact oddB_out h
theorem mall {way n : Nat} (hw : way < 5) (hn : n ≤ 20) : manyB way n = true := by
  have hm : n ∈ List.range 21 := List.mem_range.2 (by omega)
  obtain rfl | rfl | rfl | rfl | rfl : way = 0 ∨ way = 1 ∨ way = 2 ∨ way = 3 ∨ way = 4 := by omega
  · exact List.all_eq_true.1 many_all0 n hm
  · exact List.all_eq_true.1 many_all1 n hm
  · exact List.all_eq_true.1 many_all2 n hm
  · exact List.all_eq_true.1 many_all3 n hm
  · exact List.all_eq_true.1 many_all4 n hm
theorem GIs.lens {w : World} {B : Nat} {g : Gm} {p q r : Option Addr} {n c m d k f : Nat} (h : GIs w B g [.slice p n c, .slice q m d, .slice r k f]) : n = g.recs.length ∧ m = g.globals.length ∧ k = g.funcs.length ∧ LAt RIs 3 w B p g.recs ∧ LAt FIs 7 w B r g.funcs := by
  obtain ⟨q1, d1, q2, d2, q4, d4, hv, hl1, -, hl4⟩ := h
  have hv1 := (List.cons.inj hv).1
  have hv2 := (List.cons.inj (List.cons.inj hv).2).1
  have hv4 := (List.cons.inj (List.cons.inj (List.cons.inj hv).2).2).1
  injection hv1 with a1 a2 a3
  injection hv2 with a4 a5 a6
  injection hv4 with a7 a8 a9
  subst a1 a7
  exact ⟨a2, a5, a8, hl1, hl4⟩
theorem mtext_len (way n : Nat) : (mtext way n).length ≤ 40 + n * 16 := by
  unfold mtext
  split <;> simp [manyL_len] <;> omega
theorem hd_at {α : Type} {l : List α} {f : α → Bool} (h : (l.head?.elim false f) = true) : ∀ r, l[0]? = some r → f r = true := by
  intro r hr
  cases l with
  | nil => simp at hr
  | cons x l => simp at hr h; subst hr; exact h
theorem cbs_data (l : List UInt8) : (cbs l).data.toList = l := rfl
theorem cbs_len (l : List UInt8) : (cbs l).size = l.length := rfl
theorem mtext3 (n : Nat) : (⟨#[114, 101, 99, 111, 114, 100, 32, 82, 32, 123, 32]⟩ ++ cbs (manyL [] [58, 32, 105, 110, 116, 59, 32] n) ++ ⟨#[125]⟩ : ByteArray) = cbs (mtext 3 n) := by
  rw [show (⟨#[114, 101, 99, 111, 114, 100, 32, 82, 32, 123, 32]⟩ : ByteArray) = cbs [114, 101, 99, 111, 114, 100, 32, 82, 32, 123, 32] from rfl, show (⟨#[125]⟩ : ByteArray) = cbs [125] from rfl, cat_cbs, cat_cbs]
  rfl
theorem cbs_take (l : List UInt8) (m : Nat) : (cbs l).extract 0 m = cbs (l.take m) := by
  apply ByteArray.ext
  rw [ByteArray.data_extract]
  apply Array.toList_inj.1
  simp [cbs]
theorem mtext4 (n : Nat) : (⟨#[102, 117, 110, 99, 32, 102, 40]⟩ ++ (cbs (manyL [] [58, 32, 105, 110, 116, 44, 32] n)).extract 0 (8 * n - 2) ++ ⟨#[41, 32, 123, 32, 125]⟩ : ByteArray) = cbs (mtext 4 n) := by
  have h : (manyL [] [58, 32, 105, 110, 116, 44, 32] n).length - 2 = 8 * n - 2 := by rw [manyL_len]; simp; omega
  rw [cbs_take, show (⟨#[102, 117, 110, 99, 32, 102, 40]⟩ : ByteArray) = cbs [102, 117, 110, 99, 32, 102, 40] from rfl, show (⟨#[41, 32, 123, 32, 125]⟩ : ByteArray) = cbs [41, 32, 123, 32, 125] from rfl, cat_cbs, cat_cbs, ← h]
  rfl
theorem many_in0 {n : Nat} (h : manyB 0 n = true) (hn : n ≤ 12) : ∃ g F, answer (mtext 0 n) = (g, 0, F) ∧ (g.recs.length + g.globals.length + g.funcs.length = n) := by
  unfold manyB at h
  rw [if_neg (show ¬ mmost 0 < n by show ¬ 12 < n; omega)] at h
  generalize answer (mtext 0 n) = x at h ⊢
  obtain ⟨g, E, F⟩ := x
  dsimp only at h
  rw [Bool.and_eq_true, beq_iff_eq] at h
  obtain ⟨rfl, h⟩ := h
  exact ⟨g, F, rfl, by simpa using h⟩
theorem many_in1 {n : Nat} (h : manyB 1 n = true) (hn : n ≤ 8) : ∃ g F, answer (mtext 1 n) = (g, 0, F) ∧ (g.recs.length + g.globals.length + g.funcs.length = n) := by
  unfold manyB at h
  rw [if_neg (show ¬ mmost 1 < n by show ¬ 8 < n; omega)] at h
  generalize answer (mtext 1 n) = x at h ⊢
  obtain ⟨g, E, F⟩ := x
  dsimp only at h
  rw [Bool.and_eq_true, beq_iff_eq] at h
  obtain ⟨rfl, h⟩ := h
  exact ⟨g, F, rfl, by simpa using h⟩
theorem many_in2 {n : Nat} (h : manyB 2 n = true) (hn : n ≤ 16) : ∃ g F, answer (mtext 2 n) = (g, 0, F) ∧ (g.recs.length + g.globals.length + g.funcs.length = n) := by
  unfold manyB at h
  rw [if_neg (show ¬ mmost 2 < n by show ¬ 16 < n; omega)] at h
  generalize answer (mtext 2 n) = x at h ⊢
  obtain ⟨g, E, F⟩ := x
  dsimp only at h
  rw [Bool.and_eq_true, beq_iff_eq] at h
  obtain ⟨rfl, h⟩ := h
  exact ⟨g, F, rfl, by simpa using h⟩
theorem many_in3 {n : Nat} (h : manyB 3 n = true) (hn : n ≤ 8) : ∃ g F, answer (mtext 3 n) = (g, 0, F) ∧ (g.recs.length = 1 ∧ ∀ r, g.recs[0]? = some r → r.fields.length = n) := by
  unfold manyB at h
  rw [if_neg (show ¬ mmost 3 < n by show ¬ 8 < n; omega)] at h
  generalize answer (mtext 3 n) = x at h ⊢
  obtain ⟨g, E, F⟩ := x
  dsimp only at h
  rw [Bool.and_eq_true, beq_iff_eq] at h
  obtain ⟨rfl, h⟩ := h
  replace h : (g.recs.length == 1 && g.recs.head?.elim false fun r => r.fields.length == n) = true := h
  rw [Bool.and_eq_true, beq_iff_eq] at h
  exact ⟨g, F, rfl, h.1, fun r hr => by simpa using hd_at h.2 r hr⟩
theorem many_in4 {n : Nat} (h : manyB 4 n = true) (hn : n ≤ 6) : ∃ g F, answer (mtext 4 n) = (g, 0, F) ∧ (g.funcs.length = 1 ∧ ∀ r, g.funcs[0]? = some r → r.params.length = n) := by
  unfold manyB at h
  rw [if_neg (show ¬ mmost 4 < n by show ¬ 6 < n; omega)] at h
  generalize answer (mtext 4 n) = x at h ⊢
  obtain ⟨g, E, F⟩ := x
  dsimp only at h
  rw [Bool.and_eq_true, beq_iff_eq] at h
  obtain ⟨rfl, h⟩ := h
  replace h : (g.funcs.length == 1 && g.funcs.head?.elim false fun r => r.params.length == n) = true := h
  rw [Bool.and_eq_true, beq_iff_eq] at h
  exact ⟨g, F, rfl, h.1, fun r hr => by simpa using hd_at h.2 r hr⟩

set_option maxRecDepth 8000 in
set_option maxHeartbeats 8000000 in
theorem many0_over (w : World) (he : EnvG w) (n : Nat) (hn : n ≤ 20) (ho : 12 < n) :
    Calls Tryz.prog 6 #[.int .i64 0, .int .i64 n] w fun e w' => e = .returned (.bool true) ∧ Below w.heap.size w w' := by
  obtain ⟨wa, hwa⟩ : ∃ wa, wa = w.alloc (.cells #[.int .i64 12, .int .i64 8, .int .i64 16, .int .i64 8, .int .i64 6] 3) := ⟨_, rfl⟩
  have hba : Below w.heap.size w wa := by rw [hwa]; exact (Below.refl _ _).alloc (Nat.le_refl _) _
  have HBA := Lib.hid hba
  have HE := Lib.hid he
  have HN := Lib.hid hn
  have hd1 : decide ((20 : Int) < (n : Int)) = false := decide_eq_false (by omega)
  have hd2 : decide ((n : Int) < 0) = false := decide_eq_false (by omega)
  have hd3 : decide ((12 : Int) < (n : Int)) = true := decide_eq_true (by omega)
  clear he hba hn
  go_enter Tryz.func6, Tryz.ntmps6
  go_wp2_with fail
  rw [← hwa]
  clear hwa
  refine (many_any _ n HN.out [114, 101, 99, 111, 114, 100, 32] [32, 123, 32, 125, 32] (by decide) (by decide)).mono ?_
  rintro e w1 ⟨rfl, hb1⟩
  have HB1 := Lib.hid (below_seq HBA.out hb1 HBA.out.size)
  clear hb1
  go_wp2_with fail
  have hsz : (cbs (manyL [114, 101, 99, 111, 114, 100, 32] [32, 123, 32, 125, 32] n) : ByteArray).size ≤ maxLen := by
    have hd : (cbs (manyL [114, 101, 99, 111, 114, 100, 32] [32, 123, 32, 125, 32] n) : ByteArray).size = (mtext 0 n).length := rfl
    rw [hd]
    have := mtext_len 0 n
    have := HN.out
    unfold maxLen
    omega
  have hpa := parse_at (cbs (manyL [114, 101, 99, 111, 114, 100, 32] [32, 123, 32, 125, 32] n)) hsz w1 (HE.out.below HB1.out)
  rw [show (cbs (manyL [114, 101, 99, 111, 114, 100, 32] [32, 123, 32, 125, 32] n) : ByteArray).data.toList = mtext 0 n from rfl] at hpa
  have hans : answer (mtext 0 n) = (Gm.zero, 4, 156) := manyB_over (mall (by decide) HN.out) ho
  rw [hans] at hpa
  refine hpa.mono ?_
  rintro e w2 ⟨p1, n1, c1, p2, n2, c2, p4, n4, c4, rfl, hgi, hb2⟩
  have HB2 := Lib.hid (below_seq HB1.out hb2 HB1.out.size)
  obtain ⟨rfl, rfl, rfl⟩ := hgi.zero_out
  have hEq : ∀ w1, (binOp .eql 29 (.agg #[.int .i64 4, .int .i64 156]) (.agg #[.int .i64 4, .int .i64 156])).run Tryz.prog w1 = .ok (.bool true) w1 := fun w1 => by rw [eq_f2]; simp
  clear hgi hb2 hpa hans hsz ho
  go_wp2_with fail
  have hbc : Below w2.heap.size w2 ((w2.alloc (.cells #[.slice p1 0 c1, .slice p2 0 c2, .slice p4 0 c4] 26)).alloc (.cells #[.int .i64 4, .int .i64 156] 29)) := ((Below.refl _ _).alloc (Nat.le_refl _) _).alloc (by rw [size_alloc]; omega) _
  have HB3 := Lib.hid (below_seq HB2.out hbc HB2.out.size)
  clear hbc
  refine (known5_any _ (HE.out.below HB3.out)).mono ?_
  rintro e w3 ⟨rfl, hb3⟩
  go_wp2_with fail
  go_ret
  exact ⟨rfl, below_seq HB3.out hb3 HB3.out.size⟩

set_option maxRecDepth 8000 in
set_option maxHeartbeats 8000000 in
theorem many0_in (w : World) (he : EnvG w) (n : Nat) (hn : n ≤ 20) (ho : n ≤ 12) :
    Calls Tryz.prog 6 #[.int .i64 0, .int .i64 n] w fun e w' => e = .returned (.bool true) ∧ Below w.heap.size w w' := by
  obtain ⟨wa, hwa⟩ : ∃ wa, wa = w.alloc (.cells #[.int .i64 12, .int .i64 8, .int .i64 16, .int .i64 8, .int .i64 6] 3) := ⟨_, rfl⟩
  have hba : Below w.heap.size w wa := by rw [hwa]; exact (Below.refl _ _).alloc (Nat.le_refl _) _
  have HBA := Lib.hid hba
  have HE := Lib.hid he
  have HN := Lib.hid hn
  have hd1 : decide ((20 : Int) < (n : Int)) = false := decide_eq_false (by omega)
  have hd2 : decide ((n : Int) < 0) = false := decide_eq_false (by omega)
  have hd3 : decide ((12 : Int) < (n : Int)) = false := decide_eq_false (by omega)
  clear he hba hn
  go_enter Tryz.func6, Tryz.ntmps6
  go_wp2_with fail
  rw [← hwa]
  clear hwa
  refine (many_any _ n HN.out [114, 101, 99, 111, 114, 100, 32] [32, 123, 32, 125, 32] (by decide) (by decide)).mono ?_
  rintro e w1 ⟨rfl, hb1⟩
  have HB1 := Lib.hid (below_seq HBA.out hb1 HBA.out.size)
  clear hb1
  go_wp2_with fail
  have hsz : (cbs (manyL [114, 101, 99, 111, 114, 100, 32] [32, 123, 32, 125, 32] n) : ByteArray).size ≤ maxLen := by
    have hd : (cbs (manyL [114, 101, 99, 111, 114, 100, 32] [32, 123, 32, 125, 32] n) : ByteArray).size = (mtext 0 n).length := rfl
    rw [hd]
    have := mtext_len 0 n
    have := HN.out
    unfold maxLen
    omega
  have hpa := parse_at (cbs (manyL [114, 101, 99, 111, 114, 100, 32] [32, 123, 32, 125, 32] n)) hsz w1 (HE.out.below HB1.out)
  rw [show (cbs (manyL [114, 101, 99, 111, 114, 100, 32] [32, 123, 32, 125, 32] n) : ByteArray).data.toList = mtext 0 n from rfl] at hpa
  obtain ⟨g, F, hans, hcond⟩ : ∃ g F, answer (mtext 0 n) = (g, 0, F) ∧ (g.recs.length + g.globals.length + g.funcs.length = n) := many_in0 (mall (by decide) HN.out) ho
  rw [hans] at hpa
  refine hpa.mono ?_
  rintro e w2 ⟨p1, n1, c1, p2, n2, c2, p4, n4, c4, rfl, hgi, hb2⟩
  have HB2 := Lib.hid (below_seq HB1.out hb2 HB1.out.size)
  dsimp only at hgi
  obtain ⟨h1, h2, h4, hl1, hl4⟩ := hgi.lens
  have hsum : (n1 : Int) + (n2 : Int) + (n4 : Int) = (n : Int) := by omega
  have hn20 := HN.out
  have hw1 : wrap64 ((n1 : Int) + (n2 : Int)) = (n1 : Int) + (n2 : Int) := by simp [wrap64]; omega
  have hw2 : wrap64 ((n1 : Int) + (n2 : Int) + (n4 : Int)) = (n : Int) := by rw [hsum]; simp [wrap64]; omega
  clear hgi hb2 hpa hans hsz ho hcond h1 h2 h4 hl1 hl4 hsum hn20
  go_wp2_with fail
  have hbc : Below w2.heap.size w2 ((w2.alloc (.cells #[.slice p1 n1 c1, .slice p2 n2 c2, .slice p4 n4 c4] 26)).alloc (.cells #[.int .i64 0, .int .i64 F] 29)) := ((Below.refl _ _).alloc (Nat.le_refl _) _).alloc (by rw [size_alloc]; omega) _
  have HB3 := Lib.hid (below_seq HB2.out hbc HB2.out.size)
  clear hbc
  refine (known5_any _ (HE.out.below HB3.out)).mono ?_
  rintro e w3 ⟨rfl, hb3⟩
  go_wp2_with fail
  go_ret
  exact ⟨rfl, below_seq HB3.out hb3 HB3.out.size⟩

set_option maxRecDepth 8000 in
set_option maxHeartbeats 8000000 in
theorem many1_over (w : World) (he : EnvG w) (n : Nat) (hn : n ≤ 20) (ho : 8 < n) :
    Calls Tryz.prog 6 #[.int .i64 1, .int .i64 n] w fun e w' => e = .returned (.bool true) ∧ Below w.heap.size w w' := by
  obtain ⟨wa, hwa⟩ : ∃ wa, wa = w.alloc (.cells #[.int .i64 12, .int .i64 8, .int .i64 16, .int .i64 8, .int .i64 6] 3) := ⟨_, rfl⟩
  have hba : Below w.heap.size w wa := by rw [hwa]; exact (Below.refl _ _).alloc (Nat.le_refl _) _
  have HBA := Lib.hid hba
  have HE := Lib.hid he
  have HN := Lib.hid hn
  have hd1 : decide ((20 : Int) < (n : Int)) = false := decide_eq_false (by omega)
  have hd2 : decide ((n : Int) < 0) = false := decide_eq_false (by omega)
  have hd3 : decide ((8 : Int) < (n : Int)) = true := decide_eq_true (by omega)
  clear he hba hn
  go_enter Tryz.func6, Tryz.ntmps6
  go_wp2_with fail
  rw [← hwa]
  clear hwa
  refine (many_any _ n HN.out [103, 108, 111, 98, 97, 108, 32] [58, 32, 105, 110, 116, 59, 32] (by decide) (by decide)).mono ?_
  rintro e w1 ⟨rfl, hb1⟩
  have HB1 := Lib.hid (below_seq HBA.out hb1 HBA.out.size)
  clear hb1
  go_wp2_with fail
  have hsz : (cbs (manyL [103, 108, 111, 98, 97, 108, 32] [58, 32, 105, 110, 116, 59, 32] n) : ByteArray).size ≤ maxLen := by
    have hd : (cbs (manyL [103, 108, 111, 98, 97, 108, 32] [58, 32, 105, 110, 116, 59, 32] n) : ByteArray).size = (mtext 1 n).length := rfl
    rw [hd]
    have := mtext_len 1 n
    have := HN.out
    unfold maxLen
    omega
  have hpa := parse_at (cbs (manyL [103, 108, 111, 98, 97, 108, 32] [58, 32, 105, 110, 116, 59, 32] n)) hsz w1 (HE.out.below HB1.out)
  rw [show (cbs (manyL [103, 108, 111, 98, 97, 108, 32] [58, 32, 105, 110, 116, 59, 32] n) : ByteArray).data.toList = mtext 1 n from rfl] at hpa
  have hans : answer (mtext 1 n) = (Gm.zero, 4, 120) := manyB_over (mall (by decide) HN.out) ho
  rw [hans] at hpa
  refine hpa.mono ?_
  rintro e w2 ⟨p1, n1, c1, p2, n2, c2, p4, n4, c4, rfl, hgi, hb2⟩
  have HB2 := Lib.hid (below_seq HB1.out hb2 HB1.out.size)
  obtain ⟨rfl, rfl, rfl⟩ := hgi.zero_out
  have hEq : ∀ w1, (binOp .eql 29 (.agg #[.int .i64 4, .int .i64 120]) (.agg #[.int .i64 4, .int .i64 120])).run Tryz.prog w1 = .ok (.bool true) w1 := fun w1 => by rw [eq_f2]; simp
  clear hgi hb2 hpa hans hsz ho
  go_wp2_with fail
  have hbc : Below w2.heap.size w2 ((w2.alloc (.cells #[.slice p1 0 c1, .slice p2 0 c2, .slice p4 0 c4] 26)).alloc (.cells #[.int .i64 4, .int .i64 120] 29)) := ((Below.refl _ _).alloc (Nat.le_refl _) _).alloc (by rw [size_alloc]; omega) _
  have HB3 := Lib.hid (below_seq HB2.out hbc HB2.out.size)
  clear hbc
  refine (known5_any _ (HE.out.below HB3.out)).mono ?_
  rintro e w3 ⟨rfl, hb3⟩
  go_wp2_with fail
  go_ret
  exact ⟨rfl, below_seq HB3.out hb3 HB3.out.size⟩

set_option maxRecDepth 8000 in
set_option maxHeartbeats 8000000 in
theorem many1_in (w : World) (he : EnvG w) (n : Nat) (hn : n ≤ 20) (ho : n ≤ 8) :
    Calls Tryz.prog 6 #[.int .i64 1, .int .i64 n] w fun e w' => e = .returned (.bool true) ∧ Below w.heap.size w w' := by
  obtain ⟨wa, hwa⟩ : ∃ wa, wa = w.alloc (.cells #[.int .i64 12, .int .i64 8, .int .i64 16, .int .i64 8, .int .i64 6] 3) := ⟨_, rfl⟩
  have hba : Below w.heap.size w wa := by rw [hwa]; exact (Below.refl _ _).alloc (Nat.le_refl _) _
  have HBA := Lib.hid hba
  have HE := Lib.hid he
  have HN := Lib.hid hn
  have hd1 : decide ((20 : Int) < (n : Int)) = false := decide_eq_false (by omega)
  have hd2 : decide ((n : Int) < 0) = false := decide_eq_false (by omega)
  have hd3 : decide ((8 : Int) < (n : Int)) = false := decide_eq_false (by omega)
  clear he hba hn
  go_enter Tryz.func6, Tryz.ntmps6
  go_wp2_with fail
  rw [← hwa]
  clear hwa
  refine (many_any _ n HN.out [103, 108, 111, 98, 97, 108, 32] [58, 32, 105, 110, 116, 59, 32] (by decide) (by decide)).mono ?_
  rintro e w1 ⟨rfl, hb1⟩
  have HB1 := Lib.hid (below_seq HBA.out hb1 HBA.out.size)
  clear hb1
  go_wp2_with fail
  have hsz : (cbs (manyL [103, 108, 111, 98, 97, 108, 32] [58, 32, 105, 110, 116, 59, 32] n) : ByteArray).size ≤ maxLen := by
    have hd : (cbs (manyL [103, 108, 111, 98, 97, 108, 32] [58, 32, 105, 110, 116, 59, 32] n) : ByteArray).size = (mtext 1 n).length := rfl
    rw [hd]
    have := mtext_len 1 n
    have := HN.out
    unfold maxLen
    omega
  have hpa := parse_at (cbs (manyL [103, 108, 111, 98, 97, 108, 32] [58, 32, 105, 110, 116, 59, 32] n)) hsz w1 (HE.out.below HB1.out)
  rw [show (cbs (manyL [103, 108, 111, 98, 97, 108, 32] [58, 32, 105, 110, 116, 59, 32] n) : ByteArray).data.toList = mtext 1 n from rfl] at hpa
  obtain ⟨g, F, hans, hcond⟩ : ∃ g F, answer (mtext 1 n) = (g, 0, F) ∧ (g.recs.length + g.globals.length + g.funcs.length = n) := many_in1 (mall (by decide) HN.out) ho
  rw [hans] at hpa
  refine hpa.mono ?_
  rintro e w2 ⟨p1, n1, c1, p2, n2, c2, p4, n4, c4, rfl, hgi, hb2⟩
  have HB2 := Lib.hid (below_seq HB1.out hb2 HB1.out.size)
  dsimp only at hgi
  obtain ⟨h1, h2, h4, hl1, hl4⟩ := hgi.lens
  have hsum : (n1 : Int) + (n2 : Int) + (n4 : Int) = (n : Int) := by omega
  have hn20 := HN.out
  have hw1 : wrap64 ((n1 : Int) + (n2 : Int)) = (n1 : Int) + (n2 : Int) := by simp [wrap64]; omega
  have hw2 : wrap64 ((n1 : Int) + (n2 : Int) + (n4 : Int)) = (n : Int) := by rw [hsum]; simp [wrap64]; omega
  clear hgi hb2 hpa hans hsz ho hcond h1 h2 h4 hl1 hl4 hsum hn20
  go_wp2_with fail
  have hbc : Below w2.heap.size w2 ((w2.alloc (.cells #[.slice p1 n1 c1, .slice p2 n2 c2, .slice p4 n4 c4] 26)).alloc (.cells #[.int .i64 0, .int .i64 F] 29)) := ((Below.refl _ _).alloc (Nat.le_refl _) _).alloc (by rw [size_alloc]; omega) _
  have HB3 := Lib.hid (below_seq HB2.out hbc HB2.out.size)
  clear hbc
  refine (known5_any _ (HE.out.below HB3.out)).mono ?_
  rintro e w3 ⟨rfl, hb3⟩
  go_wp2_with fail
  go_ret
  exact ⟨rfl, below_seq HB3.out hb3 HB3.out.size⟩

set_option maxRecDepth 8000 in
set_option maxHeartbeats 8000000 in
theorem many2_over (w : World) (he : EnvG w) (n : Nat) (hn : n ≤ 20) (ho : 16 < n) :
    Calls Tryz.prog 6 #[.int .i64 2, .int .i64 n] w fun e w' => e = .returned (.bool true) ∧ Below w.heap.size w w' := by
  obtain ⟨wa, hwa⟩ : ∃ wa, wa = w.alloc (.cells #[.int .i64 12, .int .i64 8, .int .i64 16, .int .i64 8, .int .i64 6] 3) := ⟨_, rfl⟩
  have hba : Below w.heap.size w wa := by rw [hwa]; exact (Below.refl _ _).alloc (Nat.le_refl _) _
  have HBA := Lib.hid hba
  have HE := Lib.hid he
  have HN := Lib.hid hn
  have hd1 : decide ((20 : Int) < (n : Int)) = false := decide_eq_false (by omega)
  have hd2 : decide ((n : Int) < 0) = false := decide_eq_false (by omega)
  have hd3 : decide ((16 : Int) < (n : Int)) = true := decide_eq_true (by omega)
  clear he hba hn
  go_enter Tryz.func6, Tryz.ntmps6
  go_wp2_with fail
  rw [← hwa]
  clear hwa
  refine (many_any _ n HN.out [102, 117, 110, 99, 32] [40, 41, 32, 123, 32, 125, 32] (by decide) (by decide)).mono ?_
  rintro e w1 ⟨rfl, hb1⟩
  have HB1 := Lib.hid (below_seq HBA.out hb1 HBA.out.size)
  clear hb1
  go_wp2_with fail
  have hsz : (cbs (manyL [102, 117, 110, 99, 32] [40, 41, 32, 123, 32, 125, 32] n) : ByteArray).size ≤ maxLen := by
    have hd : (cbs (manyL [102, 117, 110, 99, 32] [40, 41, 32, 123, 32, 125, 32] n) : ByteArray).size = (mtext 2 n).length := rfl
    rw [hd]
    have := mtext_len 2 n
    have := HN.out
    unfold maxLen
    omega
  have hpa := parse_at (cbs (manyL [102, 117, 110, 99, 32] [40, 41, 32, 123, 32, 125, 32] n)) hsz w1 (HE.out.below HB1.out)
  rw [show (cbs (manyL [102, 117, 110, 99, 32] [40, 41, 32, 123, 32, 125, 32] n) : ByteArray).data.toList = mtext 2 n from rfl] at hpa
  have hans : answer (mtext 2 n) = (Gm.zero, 4, 208) := manyB_over (mall (by decide) HN.out) ho
  rw [hans] at hpa
  refine hpa.mono ?_
  rintro e w2 ⟨p1, n1, c1, p2, n2, c2, p4, n4, c4, rfl, hgi, hb2⟩
  have HB2 := Lib.hid (below_seq HB1.out hb2 HB1.out.size)
  obtain ⟨rfl, rfl, rfl⟩ := hgi.zero_out
  have hEq : ∀ w1, (binOp .eql 29 (.agg #[.int .i64 4, .int .i64 208]) (.agg #[.int .i64 4, .int .i64 208])).run Tryz.prog w1 = .ok (.bool true) w1 := fun w1 => by rw [eq_f2]; simp
  clear hgi hb2 hpa hans hsz ho
  go_wp2_with fail
  have hbc : Below w2.heap.size w2 ((w2.alloc (.cells #[.slice p1 0 c1, .slice p2 0 c2, .slice p4 0 c4] 26)).alloc (.cells #[.int .i64 4, .int .i64 208] 29)) := ((Below.refl _ _).alloc (Nat.le_refl _) _).alloc (by rw [size_alloc]; omega) _
  have HB3 := Lib.hid (below_seq HB2.out hbc HB2.out.size)
  clear hbc
  refine (known5_any _ (HE.out.below HB3.out)).mono ?_
  rintro e w3 ⟨rfl, hb3⟩
  go_wp2_with fail
  go_ret
  exact ⟨rfl, below_seq HB3.out hb3 HB3.out.size⟩

set_option maxRecDepth 8000 in
set_option maxHeartbeats 8000000 in
theorem many2_in (w : World) (he : EnvG w) (n : Nat) (hn : n ≤ 20) (ho : n ≤ 16) :
    Calls Tryz.prog 6 #[.int .i64 2, .int .i64 n] w fun e w' => e = .returned (.bool true) ∧ Below w.heap.size w w' := by
  obtain ⟨wa, hwa⟩ : ∃ wa, wa = w.alloc (.cells #[.int .i64 12, .int .i64 8, .int .i64 16, .int .i64 8, .int .i64 6] 3) := ⟨_, rfl⟩
  have hba : Below w.heap.size w wa := by rw [hwa]; exact (Below.refl _ _).alloc (Nat.le_refl _) _
  have HBA := Lib.hid hba
  have HE := Lib.hid he
  have HN := Lib.hid hn
  have hd1 : decide ((20 : Int) < (n : Int)) = false := decide_eq_false (by omega)
  have hd2 : decide ((n : Int) < 0) = false := decide_eq_false (by omega)
  have hd3 : decide ((16 : Int) < (n : Int)) = false := decide_eq_false (by omega)
  clear he hba hn
  go_enter Tryz.func6, Tryz.ntmps6
  go_wp2_with fail
  rw [← hwa]
  clear hwa
  refine (many_any _ n HN.out [102, 117, 110, 99, 32] [40, 41, 32, 123, 32, 125, 32] (by decide) (by decide)).mono ?_
  rintro e w1 ⟨rfl, hb1⟩
  have HB1 := Lib.hid (below_seq HBA.out hb1 HBA.out.size)
  clear hb1
  go_wp2_with fail
  have hsz : (cbs (manyL [102, 117, 110, 99, 32] [40, 41, 32, 123, 32, 125, 32] n) : ByteArray).size ≤ maxLen := by
    have hd : (cbs (manyL [102, 117, 110, 99, 32] [40, 41, 32, 123, 32, 125, 32] n) : ByteArray).size = (mtext 2 n).length := rfl
    rw [hd]
    have := mtext_len 2 n
    have := HN.out
    unfold maxLen
    omega
  have hpa := parse_at (cbs (manyL [102, 117, 110, 99, 32] [40, 41, 32, 123, 32, 125, 32] n)) hsz w1 (HE.out.below HB1.out)
  rw [show (cbs (manyL [102, 117, 110, 99, 32] [40, 41, 32, 123, 32, 125, 32] n) : ByteArray).data.toList = mtext 2 n from rfl] at hpa
  obtain ⟨g, F, hans, hcond⟩ : ∃ g F, answer (mtext 2 n) = (g, 0, F) ∧ (g.recs.length + g.globals.length + g.funcs.length = n) := many_in2 (mall (by decide) HN.out) ho
  rw [hans] at hpa
  refine hpa.mono ?_
  rintro e w2 ⟨p1, n1, c1, p2, n2, c2, p4, n4, c4, rfl, hgi, hb2⟩
  have HB2 := Lib.hid (below_seq HB1.out hb2 HB1.out.size)
  dsimp only at hgi
  obtain ⟨h1, h2, h4, hl1, hl4⟩ := hgi.lens
  have hsum : (n1 : Int) + (n2 : Int) + (n4 : Int) = (n : Int) := by omega
  have hn20 := HN.out
  have hw1 : wrap64 ((n1 : Int) + (n2 : Int)) = (n1 : Int) + (n2 : Int) := by simp [wrap64]; omega
  have hw2 : wrap64 ((n1 : Int) + (n2 : Int) + (n4 : Int)) = (n : Int) := by rw [hsum]; simp [wrap64]; omega
  clear hgi hb2 hpa hans hsz ho hcond h1 h2 h4 hl1 hl4 hsum hn20
  go_wp2_with fail
  have hbc : Below w2.heap.size w2 ((w2.alloc (.cells #[.slice p1 n1 c1, .slice p2 n2 c2, .slice p4 n4 c4] 26)).alloc (.cells #[.int .i64 0, .int .i64 F] 29)) := ((Below.refl _ _).alloc (Nat.le_refl _) _).alloc (by rw [size_alloc]; omega) _
  have HB3 := Lib.hid (below_seq HB2.out hbc HB2.out.size)
  clear hbc
  refine (known5_any _ (HE.out.below HB3.out)).mono ?_
  rintro e w3 ⟨rfl, hb3⟩
  go_wp2_with fail
  go_ret
  exact ⟨rfl, below_seq HB3.out hb3 HB3.out.size⟩

set_option maxRecDepth 8000 in
set_option maxHeartbeats 8000000 in
theorem many3_over (w : World) (he : EnvG w) (n : Nat) (hn : n ≤ 20) (ho : 8 < n) :
    Calls Tryz.prog 6 #[.int .i64 3, .int .i64 n] w fun e w' => e = .returned (.bool true) ∧ Below w.heap.size w w' := by
  obtain ⟨wa, hwa⟩ : ∃ wa, wa = w.alloc (.cells #[.int .i64 12, .int .i64 8, .int .i64 16, .int .i64 8, .int .i64 6] 3) := ⟨_, rfl⟩
  have hba : Below w.heap.size w wa := by rw [hwa]; exact (Below.refl _ _).alloc (Nat.le_refl _) _
  have HBA := Lib.hid hba
  have HE := Lib.hid he
  have HN := Lib.hid hn
  have hd1 : decide ((20 : Int) < (n : Int)) = false := decide_eq_false (by omega)
  have hd2 : decide ((n : Int) < 0) = false := decide_eq_false (by omega)
  have hd3 : decide ((8 : Int) < (n : Int)) = true := decide_eq_true (by omega)
  clear he hba hn
  go_enter Tryz.func6, Tryz.ntmps6
  go_wp2_with fail
  rw [← hwa]
  clear hwa
  refine (many_any _ n HN.out [] [58, 32, 105, 110, 116, 59, 32] (by decide) (by decide)).mono ?_
  rintro e w1 ⟨rfl, hb1⟩
  have HB1 := Lib.hid (below_seq HBA.out hb1 HBA.out.size)
  clear hb1
  have hml : (cbs (manyL [] [58, 32, 105, 110, 116, 59, 32] n)).size ≤ 20 * 41 := by
    have h1 : (cbs (manyL [] [58, 32, 105, 110, 116, 59, 32] n)).size = n * (0 + 1 + 7) := manyL_len _ _ n
    rw [h1]
    have := HN.out
    omega
  have hzA : (⟨#[114, 101, 99, 111, 114, 100, 32, 82, 32, 123, 32]⟩ : ByteArray).size + (cbs (manyL [] [58, 32, 105, 110, 116, 59, 32] n)).size ≤ 9223372036854775807 := by rw [show (⟨#[114, 101, 99, 111, 114, 100, 32, 82, 32, 123, 32]⟩ : ByteArray).size = 11 from rfl]; omega
  have hzB : ((⟨#[114, 101, 99, 111, 114, 100, 32, 82, 32, 123, 32]⟩ : ByteArray) ++ cbs (manyL [] [58, 32, 105, 110, 116, 59, 32] n)).size + (⟨#[125]⟩ : ByteArray).size ≤ 9223372036854775807 := by rw [ByteArray.size_append, show (⟨#[114, 101, 99, 111, 114, 100, 32, 82, 32, 123, 32]⟩ : ByteArray).size = 11 from rfl, show (⟨#[125]⟩ : ByteArray).size = 1 from rfl]; omega
  clear hml
  go_wp2_with fail
  have hsz : (⟨#[114, 101, 99, 111, 114, 100, 32, 82, 32, 123, 32]⟩ ++ cbs (manyL [] [58, 32, 105, 110, 116, 59, 32] n) ++ ⟨#[125]⟩ : ByteArray).size ≤ maxLen := by
    have hd : (⟨#[114, 101, 99, 111, 114, 100, 32, 82, 32, 123, 32]⟩ ++ cbs (manyL [] [58, 32, 105, 110, 116, 59, 32] n) ++ ⟨#[125]⟩ : ByteArray).size = (mtext 3 n).length := by rw [mtext3, cbs_len]
    rw [hd]
    have := mtext_len 3 n
    have := HN.out
    unfold maxLen
    omega
  have hpa := parse_at (⟨#[114, 101, 99, 111, 114, 100, 32, 82, 32, 123, 32]⟩ ++ cbs (manyL [] [58, 32, 105, 110, 116, 59, 32] n) ++ ⟨#[125]⟩) hsz w1 (HE.out.below HB1.out)
  rw [show (⟨#[114, 101, 99, 111, 114, 100, 32, 82, 32, 123, 32]⟩ ++ cbs (manyL [] [58, 32, 105, 110, 116, 59, 32] n) ++ ⟨#[125]⟩ : ByteArray).data.toList = mtext 3 n from by rw [mtext3, cbs_data]] at hpa
  have hans : answer (mtext 3 n) = (Gm.zero, 4, 75) := manyB_over (mall (by decide) HN.out) ho
  rw [hans] at hpa
  refine hpa.mono ?_
  rintro e w2 ⟨p1, n1, c1, p2, n2, c2, p4, n4, c4, rfl, hgi, hb2⟩
  have HB2 := Lib.hid (below_seq HB1.out hb2 HB1.out.size)
  obtain ⟨rfl, rfl, rfl⟩ := hgi.zero_out
  have hEq : ∀ w1, (binOp .eql 29 (.agg #[.int .i64 4, .int .i64 75]) (.agg #[.int .i64 4, .int .i64 75])).run Tryz.prog w1 = .ok (.bool true) w1 := fun w1 => by rw [eq_f2]; simp
  clear hgi hb2 hpa hans hsz ho
  go_wp2_with fail
  have hbc : Below w2.heap.size w2 ((w2.alloc (.cells #[.slice p1 0 c1, .slice p2 0 c2, .slice p4 0 c4] 26)).alloc (.cells #[.int .i64 4, .int .i64 75] 29)) := ((Below.refl _ _).alloc (Nat.le_refl _) _).alloc (by rw [size_alloc]; omega) _
  have HB3 := Lib.hid (below_seq HB2.out hbc HB2.out.size)
  clear hbc
  refine (known5_any _ (HE.out.below HB3.out)).mono ?_
  rintro e w3 ⟨rfl, hb3⟩
  go_wp2_with fail
  go_ret
  exact ⟨rfl, below_seq HB3.out hb3 HB3.out.size⟩

set_option maxRecDepth 8000 in
set_option maxHeartbeats 8000000 in
theorem many3_in (w : World) (he : EnvG w) (n : Nat) (hn : n ≤ 20) (ho : n ≤ 8) :
    Calls Tryz.prog 6 #[.int .i64 3, .int .i64 n] w fun e w' => e = .returned (.bool true) ∧ Below w.heap.size w w' := by
  obtain ⟨wa, hwa⟩ : ∃ wa, wa = w.alloc (.cells #[.int .i64 12, .int .i64 8, .int .i64 16, .int .i64 8, .int .i64 6] 3) := ⟨_, rfl⟩
  have hba : Below w.heap.size w wa := by rw [hwa]; exact (Below.refl _ _).alloc (Nat.le_refl _) _
  have HBA := Lib.hid hba
  have HE := Lib.hid he
  have HN := Lib.hid hn
  have hd1 : decide ((20 : Int) < (n : Int)) = false := decide_eq_false (by omega)
  have hd2 : decide ((n : Int) < 0) = false := decide_eq_false (by omega)
  have hd3 : decide ((8 : Int) < (n : Int)) = false := decide_eq_false (by omega)
  clear he hba hn
  go_enter Tryz.func6, Tryz.ntmps6
  go_wp2_with fail
  rw [← hwa]
  clear hwa
  refine (many_any _ n HN.out [] [58, 32, 105, 110, 116, 59, 32] (by decide) (by decide)).mono ?_
  rintro e w1 ⟨rfl, hb1⟩
  have HB1 := Lib.hid (below_seq HBA.out hb1 HBA.out.size)
  clear hb1
  have hml : (cbs (manyL [] [58, 32, 105, 110, 116, 59, 32] n)).size ≤ 20 * 41 := by
    have h1 : (cbs (manyL [] [58, 32, 105, 110, 116, 59, 32] n)).size = n * (0 + 1 + 7) := manyL_len _ _ n
    rw [h1]
    have := HN.out
    omega
  have hzA : (⟨#[114, 101, 99, 111, 114, 100, 32, 82, 32, 123, 32]⟩ : ByteArray).size + (cbs (manyL [] [58, 32, 105, 110, 116, 59, 32] n)).size ≤ 9223372036854775807 := by rw [show (⟨#[114, 101, 99, 111, 114, 100, 32, 82, 32, 123, 32]⟩ : ByteArray).size = 11 from rfl]; omega
  have hzB : ((⟨#[114, 101, 99, 111, 114, 100, 32, 82, 32, 123, 32]⟩ : ByteArray) ++ cbs (manyL [] [58, 32, 105, 110, 116, 59, 32] n)).size + (⟨#[125]⟩ : ByteArray).size ≤ 9223372036854775807 := by rw [ByteArray.size_append, show (⟨#[114, 101, 99, 111, 114, 100, 32, 82, 32, 123, 32]⟩ : ByteArray).size = 11 from rfl, show (⟨#[125]⟩ : ByteArray).size = 1 from rfl]; omega
  clear hml
  go_wp2_with fail
  have hsz : (⟨#[114, 101, 99, 111, 114, 100, 32, 82, 32, 123, 32]⟩ ++ cbs (manyL [] [58, 32, 105, 110, 116, 59, 32] n) ++ ⟨#[125]⟩ : ByteArray).size ≤ maxLen := by
    have hd : (⟨#[114, 101, 99, 111, 114, 100, 32, 82, 32, 123, 32]⟩ ++ cbs (manyL [] [58, 32, 105, 110, 116, 59, 32] n) ++ ⟨#[125]⟩ : ByteArray).size = (mtext 3 n).length := by rw [mtext3, cbs_len]
    rw [hd]
    have := mtext_len 3 n
    have := HN.out
    unfold maxLen
    omega
  have hpa := parse_at (⟨#[114, 101, 99, 111, 114, 100, 32, 82, 32, 123, 32]⟩ ++ cbs (manyL [] [58, 32, 105, 110, 116, 59, 32] n) ++ ⟨#[125]⟩) hsz w1 (HE.out.below HB1.out)
  rw [show (⟨#[114, 101, 99, 111, 114, 100, 32, 82, 32, 123, 32]⟩ ++ cbs (manyL [] [58, 32, 105, 110, 116, 59, 32] n) ++ ⟨#[125]⟩ : ByteArray).data.toList = mtext 3 n from by rw [mtext3, cbs_data]] at hpa
  obtain ⟨g, F, hans, hcond⟩ : ∃ g F, answer (mtext 3 n) = (g, 0, F) ∧ (g.recs.length = 1 ∧ ∀ r, g.recs[0]? = some r → r.fields.length = n) := many_in3 (mall (by decide) HN.out) ho
  rw [hans] at hpa
  refine hpa.mono ?_
  rintro e w2 ⟨p1, n1, c1, p2, n2, c2, p4, n4, c4, rfl, hgi, hb2⟩
  have HB2 := Lib.hid (below_seq HB1.out hb2 HB1.out.size)
  dsimp only at hgi
  obtain ⟨h1, h2, h4, hl1, hl4⟩ := hgi.lens
  obtain rfl : n1 = 1 := h1.trans hcond.1
  obtain ⟨r0, hr0⟩ : ∃ r0, g.recs[0]? = some r0 := ⟨_, List.getElem?_eq_getElem (by rw [hcond.1]; decide)⟩
  obtain ⟨b1, o1, vs1, rfl, hbl1, ⟨rp, rc, rfl, -⟩, hc1⟩ := hl1.get hr0
  have hr := hc1 1 _ (by decide) rfl
  rw [hcond.2 r0 hr0] at hr
  simp only [Nat.zero_mul, Nat.add_zero] at hr
  have hne1 : b1 ≠ w2.heap.size := Nat.ne_of_lt hbl1
  have hne2 : b1 ≠ w2.heap.size + 1 := by omega
  clear hgi hb2 hpa hans hsz ho hcond h1 h2 h4 hl1 hl4 hc1 hr0
  go_wp2_with fail
  have hbc : Below w2.heap.size w2 ((w2.alloc (.cells #[.slice (some ⟨b1, o1, none⟩) 1 c1, .slice p2 n2 c2, .slice p4 n4 c4] 26)).alloc (.cells #[.int .i64 0, .int .i64 F] 29)) := ((Below.refl _ _).alloc (Nat.le_refl _) _).alloc (by rw [size_alloc]; omega) _
  have HB3 := Lib.hid (below_seq HB2.out hbc HB2.out.size)
  clear hbc
  refine (known5_any _ (HE.out.below HB3.out)).mono ?_
  rintro e w3 ⟨rfl, hb3⟩
  go_wp2_with fail
  go_ret
  exact ⟨rfl, below_seq HB3.out hb3 HB3.out.size⟩

set_option maxRecDepth 8000 in
set_option maxHeartbeats 8000000 in
theorem many4_over (w : World) (he : EnvG w) (n : Nat) (hn : n ≤ 20) (hpos : 0 < n) (ho : 6 < n) :
    Calls Tryz.prog 6 #[.int .i64 4, .int .i64 n] w fun e w' => e = .returned (.bool true) ∧ Below w.heap.size w w' := by
  have hd4 : decide ((0 : Int) < (n : Int)) = true := decide_eq_true (by omega)
  have hpi : (0 : Int) < (n : Int) := by omega
  obtain ⟨wa, hwa⟩ : ∃ wa, wa = w.alloc (.cells #[.int .i64 12, .int .i64 8, .int .i64 16, .int .i64 8, .int .i64 6] 3) := ⟨_, rfl⟩
  have hba : Below w.heap.size w wa := by rw [hwa]; exact (Below.refl _ _).alloc (Nat.le_refl _) _
  have HBA := Lib.hid hba
  have HE := Lib.hid he
  have HN := Lib.hid hn
  have hd1 : decide ((20 : Int) < (n : Int)) = false := decide_eq_false (by omega)
  have hd2 : decide ((n : Int) < 0) = false := decide_eq_false (by omega)
  have hd3 : decide ((6 : Int) < (n : Int)) = true := decide_eq_true (by omega)
  clear he hba hn
  go_enter Tryz.func6, Tryz.ntmps6
  go_wp2_with fail
  rw [← hwa]
  clear hwa
  refine (many_any _ n HN.out [] [58, 32, 105, 110, 116, 44, 32] (by decide) (by decide)).mono ?_
  rintro e w1 ⟨rfl, hb1⟩
  have HB1 := Lib.hid (below_seq HBA.out hb1 HBA.out.size)
  clear hb1
  have hml : (cbs (manyL [] [58, 32, 105, 110, 116, 44, 32] n)).size = 8 * n := by
    have h1 : (cbs (manyL [] [58, 32, 105, 110, 116, 44, 32] n)).size = n * (0 + 1 + 7) := manyL_len _ _ n
    rw [h1]
    omega
  have hn20 := HN.out
  have hwz : wrap64 (((cbs (manyL [] [58, 32, 105, 110, 116, 44, 32] n)).size : Int) - 2) = ((8 * n - 2 : Nat) : Int) := by rw [hml]; simp [wrap64]; omega
  have hwn : (wrap64 (((cbs (manyL [] [58, 32, 105, 110, 116, 44, 32] n)).size : Int) - 2)).toNat = 8 * n - 2 := by rw [hwz]; omega
  have hg1 : (0 : Int) ≤ wrap64 (((cbs (manyL [] [58, 32, 105, 110, 116, 44, 32] n)).size : Int) - 2) := by rw [hwz]; omega
  have hg2 : wrap64 (((cbs (manyL [] [58, 32, 105, 110, 116, 44, 32] n)).size : Int) - 2) ≤ ((cbs (manyL [] [58, 32, 105, 110, 116, 44, 32] n)).size : Int) := by rw [hwz, hml]; omega
  have hex : ((cbs (manyL [] [58, 32, 105, 110, 116, 44, 32] n)).extract 0 (8 * n - 2)).size = 8 * n - 2 := by rw [cbs_take, cbs_len, List.length_take, ← cbs_len, hml]; omega
  have hzA : (⟨#[102, 117, 110, 99, 32, 102, 40]⟩ : ByteArray).size + ((cbs (manyL [] [58, 32, 105, 110, 116, 44, 32] n)).extract 0 (8 * n - 2)).size ≤ 9223372036854775807 := by rw [hex, show (⟨#[102, 117, 110, 99, 32, 102, 40]⟩ : ByteArray).size = 7 from rfl]; omega
  have hzB : ((⟨#[102, 117, 110, 99, 32, 102, 40]⟩ : ByteArray) ++ (cbs (manyL [] [58, 32, 105, 110, 116, 44, 32] n)).extract 0 (8 * n - 2)).size + (⟨#[41, 32, 123, 32, 125]⟩ : ByteArray).size ≤ 9223372036854775807 := by rw [ByteArray.size_append, hex, show (⟨#[102, 117, 110, 99, 32, 102, 40]⟩ : ByteArray).size = 7 from rfl, show (⟨#[41, 32, 123, 32, 125]⟩ : ByteArray).size = 5 from rfl]; omega
  have HW := Lib.hid hwz
  clear hml hn20 hex hwz
  go_wp2_with fail
  have hsz : (⟨#[102, 117, 110, 99, 32, 102, 40]⟩ ++ (cbs (manyL [] [58, 32, 105, 110, 116, 44, 32] n)).extract 0 (8 * n - 2) ++ ⟨#[41, 32, 123, 32, 125]⟩ : ByteArray).size ≤ maxLen := by
    have hd : (⟨#[102, 117, 110, 99, 32, 102, 40]⟩ ++ (cbs (manyL [] [58, 32, 105, 110, 116, 44, 32] n)).extract 0 (8 * n - 2) ++ ⟨#[41, 32, 123, 32, 125]⟩ : ByteArray).size = (mtext 4 n).length := by rw [mtext4, cbs_len]
    rw [hd]
    have := mtext_len 4 n
    have := HN.out
    unfold maxLen
    omega
  have hpa := parse_at (⟨#[102, 117, 110, 99, 32, 102, 40]⟩ ++ (cbs (manyL [] [58, 32, 105, 110, 116, 44, 32] n)).extract 0 (8 * n - 2) ++ ⟨#[41, 32, 123, 32, 125]⟩) hsz w1 (HE.out.below HB1.out)
  rw [show (⟨#[102, 117, 110, 99, 32, 102, 40]⟩ ++ (cbs (manyL [] [58, 32, 105, 110, 116, 44, 32] n)).extract 0 (8 * n - 2) ++ ⟨#[41, 32, 123, 32, 125]⟩ : ByteArray).data.toList = mtext 4 n from by rw [mtext4, cbs_data]] at hpa
  have hans : answer (mtext 4 n) = (Gm.zero, 4, 55) := manyB_over (mall (by decide) HN.out) ho
  rw [hans] at hpa
  refine hpa.mono ?_
  rintro e w2 ⟨p1, n1, c1, p2, n2, c2, p4, n4, c4, rfl, hgi, hb2⟩
  have HB2 := Lib.hid (below_seq HB1.out hb2 HB1.out.size)
  obtain ⟨rfl, rfl, rfl⟩ := hgi.zero_out
  have hEq : ∀ w1, (binOp .eql 29 (.agg #[.int .i64 4, .int .i64 55]) (.agg #[.int .i64 4, .int .i64 55])).run Tryz.prog w1 = .ok (.bool true) w1 := fun w1 => by rw [eq_f2]; simp
  clear hgi hb2 hpa hans hsz ho
  go_wp2_with fail
  have hbc : Below w2.heap.size w2 ((w2.alloc (.cells #[.slice p1 0 c1, .slice p2 0 c2, .slice p4 0 c4] 26)).alloc (.cells #[.int .i64 4, .int .i64 55] 29)) := ((Below.refl _ _).alloc (Nat.le_refl _) _).alloc (by rw [size_alloc]; omega) _
  have HB3 := Lib.hid (below_seq HB2.out hbc HB2.out.size)
  clear hbc
  refine (known5_any _ (HE.out.below HB3.out)).mono ?_
  rintro e w3 ⟨rfl, hb3⟩
  go_wp2_with fail
  go_ret
  exact ⟨rfl, below_seq HB3.out hb3 HB3.out.size⟩

set_option maxRecDepth 8000 in
set_option maxHeartbeats 8000000 in
theorem many4_pos (w : World) (he : EnvG w) (n : Nat) (hn : n ≤ 20) (hpos : 0 < n) (ho : n ≤ 6) :
    Calls Tryz.prog 6 #[.int .i64 4, .int .i64 n] w fun e w' => e = .returned (.bool true) ∧ Below w.heap.size w w' := by
  have hd4 : decide ((0 : Int) < (n : Int)) = true := decide_eq_true (by omega)
  have hpi : (0 : Int) < (n : Int) := by omega
  obtain ⟨wa, hwa⟩ : ∃ wa, wa = w.alloc (.cells #[.int .i64 12, .int .i64 8, .int .i64 16, .int .i64 8, .int .i64 6] 3) := ⟨_, rfl⟩
  have hba : Below w.heap.size w wa := by rw [hwa]; exact (Below.refl _ _).alloc (Nat.le_refl _) _
  have HBA := Lib.hid hba
  have HE := Lib.hid he
  have HN := Lib.hid hn
  have hd1 : decide ((20 : Int) < (n : Int)) = false := decide_eq_false (by omega)
  have hd2 : decide ((n : Int) < 0) = false := decide_eq_false (by omega)
  have hd3 : decide ((6 : Int) < (n : Int)) = false := decide_eq_false (by omega)
  clear he hba hn
  go_enter Tryz.func6, Tryz.ntmps6
  go_wp2_with fail
  rw [← hwa]
  clear hwa
  refine (many_any _ n HN.out [] [58, 32, 105, 110, 116, 44, 32] (by decide) (by decide)).mono ?_
  rintro e w1 ⟨rfl, hb1⟩
  have HB1 := Lib.hid (below_seq HBA.out hb1 HBA.out.size)
  clear hb1
  have hml : (cbs (manyL [] [58, 32, 105, 110, 116, 44, 32] n)).size = 8 * n := by
    have h1 : (cbs (manyL [] [58, 32, 105, 110, 116, 44, 32] n)).size = n * (0 + 1 + 7) := manyL_len _ _ n
    rw [h1]
    omega
  have hn20 := HN.out
  have hwz : wrap64 (((cbs (manyL [] [58, 32, 105, 110, 116, 44, 32] n)).size : Int) - 2) = ((8 * n - 2 : Nat) : Int) := by rw [hml]; simp [wrap64]; omega
  have hwn : (wrap64 (((cbs (manyL [] [58, 32, 105, 110, 116, 44, 32] n)).size : Int) - 2)).toNat = 8 * n - 2 := by rw [hwz]; omega
  have hg1 : (0 : Int) ≤ wrap64 (((cbs (manyL [] [58, 32, 105, 110, 116, 44, 32] n)).size : Int) - 2) := by rw [hwz]; omega
  have hg2 : wrap64 (((cbs (manyL [] [58, 32, 105, 110, 116, 44, 32] n)).size : Int) - 2) ≤ ((cbs (manyL [] [58, 32, 105, 110, 116, 44, 32] n)).size : Int) := by rw [hwz, hml]; omega
  have hex : ((cbs (manyL [] [58, 32, 105, 110, 116, 44, 32] n)).extract 0 (8 * n - 2)).size = 8 * n - 2 := by rw [cbs_take, cbs_len, List.length_take, ← cbs_len, hml]; omega
  have hzA : (⟨#[102, 117, 110, 99, 32, 102, 40]⟩ : ByteArray).size + ((cbs (manyL [] [58, 32, 105, 110, 116, 44, 32] n)).extract 0 (8 * n - 2)).size ≤ 9223372036854775807 := by rw [hex, show (⟨#[102, 117, 110, 99, 32, 102, 40]⟩ : ByteArray).size = 7 from rfl]; omega
  have hzB : ((⟨#[102, 117, 110, 99, 32, 102, 40]⟩ : ByteArray) ++ (cbs (manyL [] [58, 32, 105, 110, 116, 44, 32] n)).extract 0 (8 * n - 2)).size + (⟨#[41, 32, 123, 32, 125]⟩ : ByteArray).size ≤ 9223372036854775807 := by rw [ByteArray.size_append, hex, show (⟨#[102, 117, 110, 99, 32, 102, 40]⟩ : ByteArray).size = 7 from rfl, show (⟨#[41, 32, 123, 32, 125]⟩ : ByteArray).size = 5 from rfl]; omega
  have HW := Lib.hid hwz
  clear hml hn20 hex hwz
  go_wp2_with fail
  have hsz : (⟨#[102, 117, 110, 99, 32, 102, 40]⟩ ++ (cbs (manyL [] [58, 32, 105, 110, 116, 44, 32] n)).extract 0 (8 * n - 2) ++ ⟨#[41, 32, 123, 32, 125]⟩ : ByteArray).size ≤ maxLen := by
    have hd : (⟨#[102, 117, 110, 99, 32, 102, 40]⟩ ++ (cbs (manyL [] [58, 32, 105, 110, 116, 44, 32] n)).extract 0 (8 * n - 2) ++ ⟨#[41, 32, 123, 32, 125]⟩ : ByteArray).size = (mtext 4 n).length := by rw [mtext4, cbs_len]
    rw [hd]
    have := mtext_len 4 n
    have := HN.out
    unfold maxLen
    omega
  have hpa := parse_at (⟨#[102, 117, 110, 99, 32, 102, 40]⟩ ++ (cbs (manyL [] [58, 32, 105, 110, 116, 44, 32] n)).extract 0 (8 * n - 2) ++ ⟨#[41, 32, 123, 32, 125]⟩) hsz w1 (HE.out.below HB1.out)
  rw [show (⟨#[102, 117, 110, 99, 32, 102, 40]⟩ ++ (cbs (manyL [] [58, 32, 105, 110, 116, 44, 32] n)).extract 0 (8 * n - 2) ++ ⟨#[41, 32, 123, 32, 125]⟩ : ByteArray).data.toList = mtext 4 n from by rw [mtext4, cbs_data]] at hpa
  obtain ⟨g, F, hans, hcond⟩ : ∃ g F, answer (mtext 4 n) = (g, 0, F) ∧ (g.funcs.length = 1 ∧ ∀ r, g.funcs[0]? = some r → r.params.length = n) := many_in4 (mall (by decide) HN.out) ho
  rw [hans] at hpa
  refine hpa.mono ?_
  rintro e w2 ⟨p1, n1, c1, p2, n2, c2, p4, n4, c4, rfl, hgi, hb2⟩
  have HB2 := Lib.hid (below_seq HB1.out hb2 HB1.out.size)
  dsimp only at hgi
  obtain ⟨h1, h2, h4, hl1, hl4⟩ := hgi.lens
  obtain rfl : n4 = 1 := h4.trans hcond.1
  obtain ⟨r0, hr0⟩ : ∃ r0, g.funcs[0]? = some r0 := ⟨_, List.getElem?_eq_getElem (by rw [hcond.1]; decide)⟩
  obtain ⟨b1, o1, vs1, rfl, hbl1, ⟨rp, rc, rq, rd, rfl, -⟩, hc1⟩ := hl4.get hr0
  have hr := hc1 1 _ (by decide) rfl
  rw [hcond.2 r0 hr0] at hr
  simp only [Nat.zero_mul, Nat.add_zero] at hr
  have hne1 : b1 ≠ w2.heap.size := Nat.ne_of_lt hbl1
  have hne2 : b1 ≠ w2.heap.size + 1 := by omega
  clear hgi hb2 hpa hans hsz ho hcond h1 h2 h4 hl1 hl4 hc1 hr0
  go_wp2_with fail
  have hbc : Below w2.heap.size w2 ((w2.alloc (.cells #[.slice p1 n1 c1, .slice p2 n2 c2, .slice (some ⟨b1, o1, none⟩) 1 c4] 26)).alloc (.cells #[.int .i64 0, .int .i64 F] 29)) := ((Below.refl _ _).alloc (Nat.le_refl _) _).alloc (by rw [size_alloc]; omega) _
  have HB3 := Lib.hid (below_seq HB2.out hbc HB2.out.size)
  clear hbc
  refine (known5_any _ (HE.out.below HB3.out)).mono ?_
  rintro e w3 ⟨rfl, hb3⟩
  go_wp2_with fail
  go_ret
  exact ⟨rfl, below_seq HB3.out hb3 HB3.out.size⟩

set_option maxRecDepth 8000 in
set_option maxHeartbeats 8000000 in
theorem many4_zero (w : World) (he : EnvG w)  :
    Calls Tryz.prog 6 #[.int .i64 4, .int .i64 ((0 : Nat) : Int)] w fun e w' => e = .returned (.bool true) ∧ Below w.heap.size w w' := by
  have hn : 0 ≤ 20 := by decide
  have ho : 0 ≤ 6 := by decide
  obtain ⟨wa, hwa⟩ : ∃ wa, wa = w.alloc (.cells #[.int .i64 12, .int .i64 8, .int .i64 16, .int .i64 8, .int .i64 6] 3) := ⟨_, rfl⟩
  have hba : Below w.heap.size w wa := by rw [hwa]; exact (Below.refl _ _).alloc (Nat.le_refl _) _
  have HBA := Lib.hid hba
  have HE := Lib.hid he
  have HN := Lib.hid hn
  have hd1 : decide ((20 : Int) < ((0 : Nat) : Int)) = false := decide_eq_false (by omega)
  have hd2 : decide (((0 : Nat) : Int) < 0) = false := decide_eq_false (by omega)
  have hd3 : decide ((6 : Int) < ((0 : Nat) : Int)) = false := decide_eq_false (by omega)
  clear he hba hn
  go_enter Tryz.func6, Tryz.ntmps6
  go_wp2_with fail
  rw [← hwa]
  clear hwa
  refine (many_any _ 0 HN.out [] [58, 32, 105, 110, 116, 44, 32] (by decide) (by decide)).mono ?_
  rintro e w1 ⟨rfl, hb1⟩
  have HB1 := Lib.hid (below_seq HBA.out hb1 HBA.out.size)
  clear hb1
  go_wp2_with fail
  have hsz : (⟨#[102, 117, 110, 99, 32, 102, 40]⟩ ++ cbs (manyL [] [58, 32, 105, 110, 116, 44, 32] 0) ++ ⟨#[41, 32, 123, 32, 125]⟩ : ByteArray).size ≤ maxLen := by
    have hd : (⟨#[102, 117, 110, 99, 32, 102, 40]⟩ ++ cbs (manyL [] [58, 32, 105, 110, 116, 44, 32] 0) ++ ⟨#[41, 32, 123, 32, 125]⟩ : ByteArray).size = (mtext 4 0).length := rfl
    rw [hd]
    have := mtext_len 4 0
    have := HN.out
    unfold maxLen
    omega
  have hpa := parse_at (⟨#[102, 117, 110, 99, 32, 102, 40]⟩ ++ cbs (manyL [] [58, 32, 105, 110, 116, 44, 32] 0) ++ ⟨#[41, 32, 123, 32, 125]⟩) hsz w1 (HE.out.below HB1.out)
  rw [show (⟨#[102, 117, 110, 99, 32, 102, 40]⟩ ++ cbs (manyL [] [58, 32, 105, 110, 116, 44, 32] 0) ++ ⟨#[41, 32, 123, 32, 125]⟩ : ByteArray).data.toList = mtext 4 0 from rfl] at hpa
  obtain ⟨g, F, hans, hcond⟩ : ∃ g F, answer (mtext 4 0) = (g, 0, F) ∧ (g.funcs.length = 1 ∧ ∀ r, g.funcs[0]? = some r → r.params.length = 0) := many_in4 (mall (by decide) HN.out) ho
  rw [hans] at hpa
  refine hpa.mono ?_
  rintro e w2 ⟨p1, n1, c1, p2, n2, c2, p4, n4, c4, rfl, hgi, hb2⟩
  have HB2 := Lib.hid (below_seq HB1.out hb2 HB1.out.size)
  dsimp only at hgi
  obtain ⟨h1, h2, h4, hl1, hl4⟩ := hgi.lens
  obtain rfl : n4 = 1 := h4.trans hcond.1
  obtain ⟨r0, hr0⟩ : ∃ r0, g.funcs[0]? = some r0 := ⟨_, List.getElem?_eq_getElem (by rw [hcond.1]; decide)⟩
  obtain ⟨b1, o1, vs1, rfl, hbl1, ⟨rp, rc, rq, rd, rfl, -⟩, hc1⟩ := hl4.get hr0
  have hr := hc1 1 _ (by decide) rfl
  rw [hcond.2 r0 hr0] at hr
  simp only [Nat.zero_mul, Nat.add_zero] at hr
  have hne1 : b1 ≠ w2.heap.size := Nat.ne_of_lt hbl1
  have hne2 : b1 ≠ w2.heap.size + 1 := by omega
  clear hgi hb2 hpa hans hsz ho hcond h1 h2 h4 hl1 hl4 hc1 hr0
  go_wp2_with fail
  have hbc : Below w2.heap.size w2 ((w2.alloc (.cells #[.slice p1 n1 c1, .slice p2 n2 c2, .slice (some ⟨b1, o1, none⟩) 1 c4] 26)).alloc (.cells #[.int .i64 0, .int .i64 F] 29)) := ((Below.refl _ _).alloc (Nat.le_refl _) _).alloc (by rw [size_alloc]; omega) _
  have HB3 := Lib.hid (below_seq HB2.out hbc HB2.out.size)
  clear hbc
  refine (known5_any _ (HE.out.below HB3.out)).mono ?_
  rintro e w3 ⟨rfl, hb3⟩
  go_wp2_with fail
  go_ret
  exact ⟨rfl, below_seq HB3.out hb3 HB3.out.size⟩

set_option maxRecDepth 8000 in
set_option maxHeartbeats 8000000 in
theorem many5_out (w : World) (i n : Int) (h : i < 0 ∨ 4 < i ∨ n < 0 ∨ 20 < n) :
    Calls Tryz.prog 6 #[.int .i64 i, .int .i64 n] w fun e w' => e = .returned (.bool true) ∧ Below w.heap.size w w' := by
  by_cases h1 : i < 0
  · have hd1 : decide (i < 0) = true := decide_eq_true h1
    clear h h1
    go_enter Tryz.func6, Tryz.ntmps6
    go_wp2_with fail
    go_ret
    exact ⟨rfl, Below.refl _ _⟩
  · have hd1 : decide (i < 0) = false := decide_eq_false h1
    by_cases h2 : 4 < i
    · have hd2 : decide (4 < i) = true := decide_eq_true h2
      clear h h1 h2
      go_enter Tryz.func6, Tryz.ntmps6
      go_wp2_with fail
      go_ret
      exact ⟨rfl, Below.refl _ _⟩
    · have hd2 : decide (4 < i) = false := decide_eq_false h2
      by_cases h3 : n < 0
      · have hd3 : decide (n < 0) = true := decide_eq_true h3
        clear h h1 h2 h3
        go_enter Tryz.func6, Tryz.ntmps6
        go_wp2_with fail
        go_ret
        exact ⟨rfl, Below.refl _ _⟩
      · have hd3 : decide (n < 0) = false := decide_eq_false h3
        have hd4 : decide (20 < n) = true := decide_eq_true (by omega)
        clear h h1 h2 h3
        go_enter Tryz.func6, Tryz.ntmps6
        go_wp2_with fail
        go_ret
        exact ⟨rfl, Below.refl _ _⟩

theorem progMany_walk (i n : Int) (_ : -9223372036854775808 ≤ i ∧ i ≤ 9223372036854775807) (_ : -9223372036854775808 ≤ n ∧ n ≤ 9223372036854775807) (w : World) (he : EnvG w) :
    Calls Tryz.prog 6 #[.int .i64 i, .int .i64 n] w fun e w' => e = .returned (.bool true) ∧ Below w.heap.size w w' := by
  by_cases h : i < 0 ∨ 4 < i ∨ n < 0 ∨ 20 < n
  · exact many5_out w i n h
  · obtain ⟨m, rfl⟩ : ∃ m : Nat, n = m := ⟨n.toNat, by omega⟩
    have hm : m ≤ 20 := by omega
    obtain rfl | rfl | rfl | rfl | rfl : i = 0 ∨ i = 1 ∨ i = 2 ∨ i = 3 ∨ i = 4 := by omega
    · rcases Nat.lt_or_ge 12 m with ho | ho
      · exact many0_over w he m hm ho
      · exact many0_in w he m hm ho
    · rcases Nat.lt_or_ge 8 m with ho | ho
      · exact many1_over w he m hm ho
      · exact many1_in w he m hm ho
    · rcases Nat.lt_or_ge 16 m with ho | ho
      · exact many2_over w he m hm ho
      · exact many2_in w he m hm ho
    · rcases Nat.lt_or_ge 8 m with ho | ho
      · exact many3_over w he m hm ho
      · exact many3_in w he m hm ho
    · rcases Nat.lt_or_ge 6 m with ho | ho
      · exact many4_over w he m hm (by omega) ho
      · rcases Nat.eq_zero_or_pos m with hz | hz
        · subst hz
          exact many4_zero w he
        · exact many4_pos w he m hm hz ho
end Go.Proofs.YtnadaedibicaaaaGreatDoor
