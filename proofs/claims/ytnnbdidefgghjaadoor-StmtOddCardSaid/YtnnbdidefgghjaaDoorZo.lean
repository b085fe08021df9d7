/-
  StmtOdd: statements by hand.
-/
import Derived.Test.YtnnbdidefgghjaaDoorZn
import Derived.Test.YtnnbdidefgghjaaDoorLaidE
import Derived.Deep.RegionHeld3
namespace Go.Proofs.YtnnbdidefgghjaaDoor
open Go.RowKit
open Px (RT tokAt)
open Pe
open Ps (Sm PX)

def kindM : Sm → Int
  | .mk k _ _ _ _ _ _ _ _ => k
theorem SIs.kindM {w : World} {B : Nat} {x : Sm} {kind : Int} {name ofn : List UInt8} {dims : Int} {ev bv lv : Value} {at_ ref : Int} (h : SIs w B x (smCells kind name ofn dims ev bv lv at_ ref)) : kind = kindM x := by
  cases x
  obtain ⟨p, c, q, d, r, f, hv, -⟩ := h.parts
  obtain ⟨h1, -⟩ := smCells_inj hv
  exact h1
theorem stoodF : Tryd.prog.stoodInHeld 25 = false := by kernel_rfl
set_option maxHeartbeats 1000000 in
theorem eq_f2 (a b c d : Int) (w : World) : (binOp .eql 25 (.agg #[.int .i64 a, .int .i64 b]) (.agg #[.int .i64 c, .int .i64 d])).run Tryd.prog w = .ok (.bool (a == c && b == d)) w := by
  rw [run_eql_struct, run_equalIn_agg w 9999 _ _ _ (by kernel_rfl) stoodF]
  simp [go_sem]
  split <;> (try split) <;> simp_all
/-- The other reader's answers, by so much fuel. -/
def pxBy (us : List Ln.Lx.Tk) (f : Nat) : PX := fun k o => (parse (us.map toRT) f k o).getD (Ex.zero, 0, 0, 0)
theorem pxBy_is {us : List Ln.Lx.Tk} {n : Nat} (hn : us.length = n) (hs : n ≤ 1000) : Sim.IsP (us.map toRT) (pxBy us (10 * n + 20)) := by
  intro k o
  obtain ⟨x, h, -⟩ := Sim.parse_same (ts := us.map toRT) (by rw [List.length_map]; omega) k o
  rw [h]
  have he : Sim.enough (us.map toRT) = 10 * n + 20 := by unfold Sim.enough; rw [List.length_map, hn]
  rw [he] at h
  unfold pxBy
  rw [h]
  rfl
/-- A text's tokens and its statement's kind, place behind and fault, in numbers. -/
def oddly (us : List Ln.Lx.Tk) (n : Nat) : Option (Int × Int × Int × Int) := (Ps.parse (us.map toRT) (pxBy us (10 * n + 20)) (10 * n + 20) 0 0).map fun x => (kindM x.1, x.2)
theorem oddly_out {us : List Ln.Lx.Tk} {n : Nat} {k t E F : Int} (h : oddly us n = some (k, t, E, F)) : ∃ m, Ps.parse (us.map toRT) (pxBy us (10 * n + 20)) (10 * n + 20) 0 0 = some (m, t, E, F) ∧ kindM m = k := by
  unfold oddly at h
  cases hp : Ps.parse (us.map toRT) (pxBy us (10 * n + 20)) (10 * n + 20) 0 0 with
  | none => rw [hp] at h; cases h
  | some x =>
    rw [hp] at h
    obtain ⟨m, t2, E2, F2⟩ := x
    simp only [Option.map_some, Option.some.injEq, Prod.mk.injEq] at h
    obtain ⟨rfl, rfl, rfl, rfl⟩ := h
    exact ⟨m, rfl, rfl⟩

def oddU0 : List Ln.Lx.Tk := (Ln.Lx.toks [120, 59]).1
set_option maxRecDepth 40000 in
theorem oddT0 : Ln.Lx.toks [120, 59] = (oddU0, 0, 0) := by kernel_rfl
theorem oddN0 : oddU0.length = 3 := by kernel_rfl
set_option maxRecDepth 40000 in
theorem oddP0 : oddly oddU0 3 = some (0, 0, 2, 1) := by kernel_rfl
theorem oddS0 : ∀ t ∈ oddU0, t.text.length ≤ 281474976710656 := by
  have h : (oddU0.all fun t => decide (t.text.length ≤ 281474976710656)) = true := by kernel_rfl
  exact fun t ht => of_decide_eq_true (List.all_eq_true.1 h t ht)

set_option maxRecDepth 40000 in
set_option maxHeartbeats 8000000 in
theorem odd4_0 (w : World) (hops : OpsIn w) :
    Calls Tryd.prog 4 #[.int .i64 0] w fun e w' => e = .returned (.bool true) ∧ Below w.heap.size w w' := by
  obtain ⟨m, hm, hmk⟩ := oddly_out oddP0
  have HM := Lib.hid hm
  have HMK := Lib.hid hmk
  have HOP := Lib.hid hops
  obtain ⟨w0, hw0⟩ : ∃ w0, w0 = ((w.alloc (.cells #[.string ⟨#[120, 59]⟩, .string ⟨#[120, 32, 43, 32, 49, 59]⟩, .string ⟨#[120, 46, 102, 32, 61, 32, 50, 59]⟩, .string ⟨#[120, 91, 49, 93, 32, 61, 32, 50, 59]⟩, .string ⟨#[102, 40, 41, 32, 61, 32, 50, 59]⟩, .string ⟨#[49, 32, 61, 32, 50, 59]⟩, .string ⟨#[102, 40, 49, 41, 59]⟩, .string ⟨#[40, 120, 41, 32, 61, 32, 49, 59]⟩, .string ⟨#[45, 120, 32, 61, 32, 49, 59]⟩, .string ⟨#[114, 101, 116, 117, 114, 110]⟩, .string ⟨#[114, 101, 116, 117, 114, 110, 59]⟩, .string ⟨#[114, 101, 116, 117, 114, 110, 32, 49, 59]⟩, .string ⟨#[108, 101, 116, 32, 120, 32, 61, 32, 49, 59]⟩, .string ⟨#[118, 97, 114, 32, 120, 58, 32, 91, 91, 105, 110, 116, 93, 93, 59]⟩, .string ⟨#[118, 97, 114, 32, 120, 58, 32, 91, 91, 91, 91, 105, 110, 116, 93, 93, 93, 93, 59]⟩, .string ⟨#[105, 102, 32, 98, 32, 123, 32, 125, 32, 101, 108, 115, 101, 32, 102, 40, 41, 59]⟩, .string ⟨#[112, 114, 105, 110, 116, 59]⟩, .string ⟨#[119, 104, 105, 108, 101, 32, 123, 32, 125]⟩, .string ⟨#[120, 32, 61, 32, 59]⟩, .string ⟨#[102, 40, 41, 46, 103, 32, 61, 32, 49, 59]⟩] 9)).alloc (.cells #[.int .i64 0, .int .i64 0, .int .i64 4, .int .i64 4, .int .i64 0, .int .i64 0, .int .i64 9, .int .i64 3, .int .i64 0, .int .i64 0, .int .i64 7, .int .i64 7, .int .i64 0, .int .i64 1, .int .i64 0, .int .i64 0, .int .i64 0, .int .i64 0, .int .i64 0, .int .i64 4] 3)).alloc (.cells #[.int .i64 1, .int .i64 5, .int .i64 0, .int .i64 0, .int .i64 4, .int .i64 2, .int .i64 0, .int .i64 0, .int .i64 3, .int .i64 6, .int .i64 0, .int .i64 0, .int .i64 6, .int .i64 0, .int .i64 10, .int .i64 14, .int .i64 5, .int .i64 6, .int .i64 4, .int .i64 0] 3) := ⟨_, rfl⟩
  have hb0 : Below w.heap.size w w0 := by rw [hw0]; exact (((Below.refl _ _).alloc (Nat.le_refl _) _).alloc (by simp only [size_alloc]; omega) _).alloc (by simp only [size_alloc]; omega) _
  have hkK : w0.heap[w.heap.size + 1]? = some (.cells #[.int .i64 0, .int .i64 0, .int .i64 4, .int .i64 4, .int .i64 0, .int .i64 0, .int .i64 9, .int .i64 3, .int .i64 0, .int .i64 0, .int .i64 7, .int .i64 7, .int .i64 0, .int .i64 1, .int .i64 0, .int .i64 0, .int .i64 0, .int .i64 0, .int .i64 0, .int .i64 4] 3 (0, 0)) := by rw [hw0]; have := heap_alloc_new (w.alloc (.cells #[.string ⟨#[120, 59]⟩, .string ⟨#[120, 32, 43, 32, 49, 59]⟩, .string ⟨#[120, 46, 102, 32, 61, 32, 50, 59]⟩, .string ⟨#[120, 91, 49, 93, 32, 61, 32, 50, 59]⟩, .string ⟨#[102, 40, 41, 32, 61, 32, 50, 59]⟩, .string ⟨#[49, 32, 61, 32, 50, 59]⟩, .string ⟨#[102, 40, 49, 41, 59]⟩, .string ⟨#[40, 120, 41, 32, 61, 32, 49, 59]⟩, .string ⟨#[45, 120, 32, 61, 32, 49, 59]⟩, .string ⟨#[114, 101, 116, 117, 114, 110]⟩, .string ⟨#[114, 101, 116, 117, 114, 110, 59]⟩, .string ⟨#[114, 101, 116, 117, 114, 110, 32, 49, 59]⟩, .string ⟨#[108, 101, 116, 32, 120, 32, 61, 32, 49, 59]⟩, .string ⟨#[118, 97, 114, 32, 120, 58, 32, 91, 91, 105, 110, 116, 93, 93, 59]⟩, .string ⟨#[118, 97, 114, 32, 120, 58, 32, 91, 91, 91, 91, 105, 110, 116, 93, 93, 93, 93, 59]⟩, .string ⟨#[105, 102, 32, 98, 32, 123, 32, 125, 32, 101, 108, 115, 101, 32, 102, 40, 41, 59]⟩, .string ⟨#[112, 114, 105, 110, 116, 59]⟩, .string ⟨#[119, 104, 105, 108, 101, 32, 123, 32, 125]⟩, .string ⟨#[120, 32, 61, 32, 59]⟩, .string ⟨#[102, 40, 41, 46, 103, 32, 61, 32, 49, 59]⟩] 9)) (.cells #[.int .i64 0, .int .i64 0, .int .i64 4, .int .i64 4, .int .i64 0, .int .i64 0, .int .i64 9, .int .i64 3, .int .i64 0, .int .i64 0, .int .i64 7, .int .i64 7, .int .i64 0, .int .i64 1, .int .i64 0, .int .i64 0, .int .i64 0, .int .i64 0, .int .i64 0, .int .i64 4] 3); rw [size_alloc] at this; exact alloc_box _ this
  have hkA : w0.heap[w.heap.size + 1 + 1]? = some (.cells #[.int .i64 1, .int .i64 5, .int .i64 0, .int .i64 0, .int .i64 4, .int .i64 2, .int .i64 0, .int .i64 0, .int .i64 3, .int .i64 6, .int .i64 0, .int .i64 0, .int .i64 6, .int .i64 0, .int .i64 10, .int .i64 14, .int .i64 5, .int .i64 6, .int .i64 4, .int .i64 0] 3 (0, 0)) := by rw [hw0]; have := heap_alloc_new ((w.alloc (.cells #[.string ⟨#[120, 59]⟩, .string ⟨#[120, 32, 43, 32, 49, 59]⟩, .string ⟨#[120, 46, 102, 32, 61, 32, 50, 59]⟩, .string ⟨#[120, 91, 49, 93, 32, 61, 32, 50, 59]⟩, .string ⟨#[102, 40, 41, 32, 61, 32, 50, 59]⟩, .string ⟨#[49, 32, 61, 32, 50, 59]⟩, .string ⟨#[102, 40, 49, 41, 59]⟩, .string ⟨#[40, 120, 41, 32, 61, 32, 49, 59]⟩, .string ⟨#[45, 120, 32, 61, 32, 49, 59]⟩, .string ⟨#[114, 101, 116, 117, 114, 110]⟩, .string ⟨#[114, 101, 116, 117, 114, 110, 59]⟩, .string ⟨#[114, 101, 116, 117, 114, 110, 32, 49, 59]⟩, .string ⟨#[108, 101, 116, 32, 120, 32, 61, 32, 49, 59]⟩, .string ⟨#[118, 97, 114, 32, 120, 58, 32, 91, 91, 105, 110, 116, 93, 93, 59]⟩, .string ⟨#[118, 97, 114, 32, 120, 58, 32, 91, 91, 91, 91, 105, 110, 116, 93, 93, 93, 93, 59]⟩, .string ⟨#[105, 102, 32, 98, 32, 123, 32, 125, 32, 101, 108, 115, 101, 32, 102, 40, 41, 59]⟩, .string ⟨#[112, 114, 105, 110, 116, 59]⟩, .string ⟨#[119, 104, 105, 108, 101, 32, 123, 32, 125]⟩, .string ⟨#[120, 32, 61, 32, 59]⟩, .string ⟨#[102, 40, 41, 46, 103, 32, 61, 32, 49, 59]⟩] 9)).alloc (.cells #[.int .i64 0, .int .i64 0, .int .i64 4, .int .i64 4, .int .i64 0, .int .i64 0, .int .i64 9, .int .i64 3, .int .i64 0, .int .i64 0, .int .i64 7, .int .i64 7, .int .i64 0, .int .i64 1, .int .i64 0, .int .i64 0, .int .i64 0, .int .i64 0, .int .i64 0, .int .i64 4] 3)) (.cells #[.int .i64 1, .int .i64 5, .int .i64 0, .int .i64 0, .int .i64 4, .int .i64 2, .int .i64 0, .int .i64 0, .int .i64 3, .int .i64 6, .int .i64 0, .int .i64 0, .int .i64 6, .int .i64 0, .int .i64 10, .int .i64 14, .int .i64 5, .int .i64 6, .int .i64 4, .int .i64 0] 3); simp only [size_alloc] at this; exact this
  have HKK := Lib.hid hkK
  have HKA := Lib.hid hkA
  have HB0 := Lib.hid hb0
  clear hm hmk hops hkK hkA hb0
  go_enter Tryd.func4, Tryd.ntmps4
  go_wp2_with fail
  rw [← hw0]
  clear hw0
  have htk := tokens_are ⟨#[120, 59]⟩ (by decide) oddU0 0 0 oddT0 w0
  rw [oddN0] at htk
  refine (htk).mono ?_
  clear htk
  rintro e w1 ⟨A, cA, rfl, hl1, hb1⟩
  have hbf : Below w1.heap.size w1 (w1.alloc (.cells #[.int .i64 0, .int .i64 0] 25)) := (Below.refl _ _).alloc (Nat.le_refl _) _
  have ht := (toks_of (c := cA) hl1 oddS0).below hbf
  rw [oddN0] at ht
  have HT := Lib.hid ht
  have hb01 := below_seq hb1 hbf hb1.size
  have HB1 := Lib.hid (below_seq HB0.out hb01 HB0.out.size)
  have HKK1 := Lib.hid ((hb01.block _ (heap_lt' HKK.out)).trans HKK.out)
  have HKA1 := Lib.hid ((hb01.block _ (heap_lt' HKA.out)).trans HKA.out)
  clear ht hl1 hb1 hbf hb01 HKK HKA
  go_wp2_with fail
  have hlen : (oddU0.map toRT).length ≤ 90000000 := by rw [List.length_map, oddN0]; decide
  refine (stParse_any _ _ _ (oddU0.map toRT) (pxBy oddU0 (10 * 3 + 20)) (pok_of hlen (pxBy_is oddN0 (by decide))) 0 0 HT.out (by obtain ⟨gt, gfr, hg⟩ := HOP.out; exact ⟨gt, gfr, (HB1.out.block _ (heap_lt' hg)).trans hg⟩) (10 * 3 + 20) (by decide) _ HM.out).mono ?_
  rintro e w3 ⟨sk, sn, so, sd, sep, sel, sec, sbp, sbl, sbc, slp, sll, slc, sa, sr, rfl, hs, hb3⟩
  have hsk := hs.kindM
  clear hsk
  have hKr := (hb3.block _ (heap_lt' HKK1.out)).trans HKK1.out
  have hK : w3.cell? ⟨w.heap.size + 1, 0, none⟩ = some (.int .i64 0) := by rw [cell_of_row _ _ _ _ _ _ hKr]; rfl
  have hKl := heap_lt' hKr
  have hAr := (hb3.block _ (heap_lt' HKA1.out)).trans HKA1.out
  have HA := Lib.hid hAr
  have HK := Lib.hid hK
  have HL3 := Lib.hid (heap_lt' hAr)
  have HB3 := Lib.hid (below_seq HB1.out hb3 HB1.out.size)
  clear hs hb3 hKr hAr HT HKK1 HKA1 hlen
  dsimp only
  have hKw : ((w3.alloc (.cells #[.int .i64 sk, .string (cbs sn), .string (cbs so), .int .i64 sd, .slice sep sel sec, .slice sbp sbl sbc, .slice slp sll slc, .int .i64 sa, .int .i64 sr] 33)).alloc (.cells #[.int .i64 2, .int .i64 1] 25)).cell? ⟨w.heap.size + 1, 0, none⟩ = some (.int .i64 0) :=
    ((((Below.refl _ _).alloc (Nat.le_refl _) _).alloc (by rw [size_alloc]; omega) _ : Below w3.heap.size w3 ((w3.alloc (.cells #[.int .i64 sk, .string (cbs sn), .string (cbs so), .int .i64 sd, .slice sep sel sec, .slice sbp sbl sbc, .slice slp sll slc, .int .i64 sa, .int .i64 sr] 33)).alloc (.cells #[.int .i64 2, .int .i64 1] 25))).cell (p := ⟨w.heap.size + 1, 0, none⟩) hKl).trans hK
  go_wp2_with fail
  clear hK hKw
  obtain ⟨wc, hwc⟩ : ∃ wc, wc = (w3.alloc (.cells #[.int .i64 sk, .string (cbs sn), .string (cbs so), .int .i64 sd, .slice sep sel sec, .slice sbp sbl sbc, .slice slp sll slc, .int .i64 sa, .int .i64 sr] 33)).alloc (.cells #[.int .i64 2, .int .i64 1] 25) := ⟨_, rfl⟩
  try rw [← hwc]
  have hb5 : Below w3.heap.size w3 wc := by rw [hwc]; exact ((Below.refl _ _).alloc (Nat.le_refl _) _).alloc (by rw [size_alloc]; omega) _
  have hS : wc.heap[w3.heap.size]? = some (.cells #[.int .i64 sk, .string (cbs sn), .string (cbs so), .int .i64 sd, .slice sep sel sec, .slice sbp sbl sbc, .slice slp sll slc, .int .i64 sa, .int .i64 sr] 33 (0, 0)) := by rw [hwc]; exact alloc_box _ (heap_alloc_new w3 _)
  have hG : wc.heap[w3.heap.size + 1]? = some (.cells #[.int .i64 2, .int .i64 1] 25 (0, 0)) := by rw [hwc]; have := heap_alloc_new (w3.alloc (.cells #[.int .i64 sk, .string (cbs sn), .string (cbs so), .int .i64 sd, .slice sep sel sec, .slice sbp sbl sbc, .slice slp sll slc, .int .i64 sa, .int .i64 sr] 33)) (.cells #[.int .i64 2, .int .i64 1] 25); rw [size_alloc] at this; exact this
  clear hwc
  have hK := (hb5.cell (p := ⟨w.heap.size + 1, 0, none⟩) hKl).trans HK.out
  have hA : wc.cell? ⟨w.heap.size + 1 + 1, 0, none⟩ = some (.int .i64 1) := by rw [cell_of_row _ _ _ _ _ _ ((hb5.block _ HL3.out).trans HA.out)]; rfl
  have HS0 : Hid (wc.cell? ⟨w3.heap.size + 1, 0, none⟩ = some (.int .i64 2) ∧ wc.cell? ⟨w3.heap.size + 1, 1, none⟩ = some (.int .i64 1) ∧ wc.cell? ⟨w.heap.size + 1 + 1, 0, none⟩ = some (.int .i64 1)) := Lib.hid ⟨(duo hG).1.1, (duo hG).1.2, hA⟩
  have HLT := Lib.hid (show w3.heap.size + 1 < wc.heap.size ∧ w3.heap.size + 1 < wc.heap.size ∧ w.heap.size + 1 + 1 < wc.heap.size from ⟨heap_lt' hG, heap_lt' hG, by have := HL3.out; have := hb5.size; omega⟩)
  have HW := Lib.hid (below_seq HB3.out hb5 HB3.out.size)
  clear hb5 hS hG hK hA hKl HK HA HB3 HB1 HB0
  have HKN := Lib.hid (known4_any wc.drew (by obtain ⟨gt, gfr, hg⟩ := HOP.out; exact ⟨gt, gfr, (HW.out.block _ (heap_lt' hg)).trans hg⟩))
  obtain ⟨e0, e1, e2⟩ := HS0.out
  have hq := eq_f2 2 1 2 1
  go_region_held3 (fun w' => w'.cell? ⟨w3.heap.size + 1, 0, none⟩ = some (.int .i64 2) ∧ w'.cell? ⟨w3.heap.size + 1, 1, none⟩ = some (.int .i64 1) ∧ w'.cell? ⟨w.heap.size + 1 + 1, 0, none⟩ = some (.int .i64 1)) (first | exact HS0.out | exact HS4.out) (first
    | (go_at_call 8; (with_reducible refine Calls.mono HKN.out ?_); rintro e w4 ⟨rfl, hb4⟩; have HB4 := Lib.hid (below_seq ((Below.refl wc.heap.size wc).drew) hb4 (Nat.le_refl _)); have HS4 : Hid (w4.cell? ⟨w3.heap.size + 1, 0, none⟩ = some (.int .i64 2) ∧ w4.cell? ⟨w3.heap.size + 1, 1, none⟩ = some (.int .i64 1) ∧ w4.cell? ⟨w.heap.size + 1 + 1, 0, none⟩ = some (.int .i64 1)) := Lib.hid ⟨(HB4.out.cell (p := ⟨w3.heap.size + 1, 0, none⟩) HLT.out.1).trans HS0.out.1, (HB4.out.cell (p := ⟨w3.heap.size + 1, 1, none⟩) HLT.out.2.1).trans HS0.out.2.1, (HB4.out.cell (p := ⟨w.heap.size + 1 + 1, 0, none⟩) HLT.out.2.2).trans HS0.out.2.2⟩; clear hb4 HKN))
  go_wp2_with fail
  go_ret
  exact ⟨rfl, below_seq HW.out HB4.out HW.out.size⟩

def oddU1 : List Ln.Lx.Tk := (Ln.Lx.toks [120, 32, 43, 32, 49, 59]).1
set_option maxRecDepth 40000 in
theorem oddT1 : Ln.Lx.toks [120, 32, 43, 32, 49, 59] = (oddU1, 0, 0) := by kernel_rfl
theorem oddN1 : oddU1.length = 5 := by kernel_rfl
set_option maxRecDepth 40000 in
theorem oddP1 : oddly oddU1 5 = some (0, 0, 2, 5) := by kernel_rfl
theorem oddS1 : ∀ t ∈ oddU1, t.text.length ≤ 281474976710656 := by
  have h : (oddU1.all fun t => decide (t.text.length ≤ 281474976710656)) = true := by kernel_rfl
  exact fun t ht => of_decide_eq_true (List.all_eq_true.1 h t ht)

set_option maxRecDepth 40000 in
set_option maxHeartbeats 8000000 in
theorem odd4_1 (w : World) (hops : OpsIn w) :
    Calls Tryd.prog 4 #[.int .i64 1] w fun e w' => e = .returned (.bool true) ∧ Below w.heap.size w w' := by
  obtain ⟨m, hm, hmk⟩ := oddly_out oddP1
  have HM := Lib.hid hm
  have HMK := Lib.hid hmk
  have HOP := Lib.hid hops
  obtain ⟨w0, hw0⟩ : ∃ w0, w0 = ((w.alloc (.cells #[.string ⟨#[120, 59]⟩, .string ⟨#[120, 32, 43, 32, 49, 59]⟩, .string ⟨#[120, 46, 102, 32, 61, 32, 50, 59]⟩, .string ⟨#[120, 91, 49, 93, 32, 61, 32, 50, 59]⟩, .string ⟨#[102, 40, 41, 32, 61, 32, 50, 59]⟩, .string ⟨#[49, 32, 61, 32, 50, 59]⟩, .string ⟨#[102, 40, 49, 41, 59]⟩, .string ⟨#[40, 120, 41, 32, 61, 32, 49, 59]⟩, .string ⟨#[45, 120, 32, 61, 32, 49, 59]⟩, .string ⟨#[114, 101, 116, 117, 114, 110]⟩, .string ⟨#[114, 101, 116, 117, 114, 110, 59]⟩, .string ⟨#[114, 101, 116, 117, 114, 110, 32, 49, 59]⟩, .string ⟨#[108, 101, 116, 32, 120, 32, 61, 32, 49, 59]⟩, .string ⟨#[118, 97, 114, 32, 120, 58, 32, 91, 91, 105, 110, 116, 93, 93, 59]⟩, .string ⟨#[118, 97, 114, 32, 120, 58, 32, 91, 91, 91, 91, 105, 110, 116, 93, 93, 93, 93, 59]⟩, .string ⟨#[105, 102, 32, 98, 32, 123, 32, 125, 32, 101, 108, 115, 101, 32, 102, 40, 41, 59]⟩, .string ⟨#[112, 114, 105, 110, 116, 59]⟩, .string ⟨#[119, 104, 105, 108, 101, 32, 123, 32, 125]⟩, .string ⟨#[120, 32, 61, 32, 59]⟩, .string ⟨#[102, 40, 41, 46, 103, 32, 61, 32, 49, 59]⟩] 9)).alloc (.cells #[.int .i64 0, .int .i64 0, .int .i64 4, .int .i64 4, .int .i64 0, .int .i64 0, .int .i64 9, .int .i64 3, .int .i64 0, .int .i64 0, .int .i64 7, .int .i64 7, .int .i64 0, .int .i64 1, .int .i64 0, .int .i64 0, .int .i64 0, .int .i64 0, .int .i64 0, .int .i64 4] 3)).alloc (.cells #[.int .i64 1, .int .i64 5, .int .i64 0, .int .i64 0, .int .i64 4, .int .i64 2, .int .i64 0, .int .i64 0, .int .i64 3, .int .i64 6, .int .i64 0, .int .i64 0, .int .i64 6, .int .i64 0, .int .i64 10, .int .i64 14, .int .i64 5, .int .i64 6, .int .i64 4, .int .i64 0] 3) := ⟨_, rfl⟩
  have hb0 : Below w.heap.size w w0 := by rw [hw0]; exact (((Below.refl _ _).alloc (Nat.le_refl _) _).alloc (by simp only [size_alloc]; omega) _).alloc (by simp only [size_alloc]; omega) _
  have hkK : w0.heap[w.heap.size + 1]? = some (.cells #[.int .i64 0, .int .i64 0, .int .i64 4, .int .i64 4, .int .i64 0, .int .i64 0, .int .i64 9, .int .i64 3, .int .i64 0, .int .i64 0, .int .i64 7, .int .i64 7, .int .i64 0, .int .i64 1, .int .i64 0, .int .i64 0, .int .i64 0, .int .i64 0, .int .i64 0, .int .i64 4] 3 (0, 0)) := by rw [hw0]; have := heap_alloc_new (w.alloc (.cells #[.string ⟨#[120, 59]⟩, .string ⟨#[120, 32, 43, 32, 49, 59]⟩, .string ⟨#[120, 46, 102, 32, 61, 32, 50, 59]⟩, .string ⟨#[120, 91, 49, 93, 32, 61, 32, 50, 59]⟩, .string ⟨#[102, 40, 41, 32, 61, 32, 50, 59]⟩, .string ⟨#[49, 32, 61, 32, 50, 59]⟩, .string ⟨#[102, 40, 49, 41, 59]⟩, .string ⟨#[40, 120, 41, 32, 61, 32, 49, 59]⟩, .string ⟨#[45, 120, 32, 61, 32, 49, 59]⟩, .string ⟨#[114, 101, 116, 117, 114, 110]⟩, .string ⟨#[114, 101, 116, 117, 114, 110, 59]⟩, .string ⟨#[114, 101, 116, 117, 114, 110, 32, 49, 59]⟩, .string ⟨#[108, 101, 116, 32, 120, 32, 61, 32, 49, 59]⟩, .string ⟨#[118, 97, 114, 32, 120, 58, 32, 91, 91, 105, 110, 116, 93, 93, 59]⟩, .string ⟨#[118, 97, 114, 32, 120, 58, 32, 91, 91, 91, 91, 105, 110, 116, 93, 93, 93, 93, 59]⟩, .string ⟨#[105, 102, 32, 98, 32, 123, 32, 125, 32, 101, 108, 115, 101, 32, 102, 40, 41, 59]⟩, .string ⟨#[112, 114, 105, 110, 116, 59]⟩, .string ⟨#[119, 104, 105, 108, 101, 32, 123, 32, 125]⟩, .string ⟨#[120, 32, 61, 32, 59]⟩, .string ⟨#[102, 40, 41, 46, 103, 32, 61, 32, 49, 59]⟩] 9)) (.cells #[.int .i64 0, .int .i64 0, .int .i64 4, .int .i64 4, .int .i64 0, .int .i64 0, .int .i64 9, .int .i64 3, .int .i64 0, .int .i64 0, .int .i64 7, .int .i64 7, .int .i64 0, .int .i64 1, .int .i64 0, .int .i64 0, .int .i64 0, .int .i64 0, .int .i64 0, .int .i64 4] 3); rw [size_alloc] at this; exact alloc_box _ this
  have hkA : w0.heap[w.heap.size + 1 + 1]? = some (.cells #[.int .i64 1, .int .i64 5, .int .i64 0, .int .i64 0, .int .i64 4, .int .i64 2, .int .i64 0, .int .i64 0, .int .i64 3, .int .i64 6, .int .i64 0, .int .i64 0, .int .i64 6, .int .i64 0, .int .i64 10, .int .i64 14, .int .i64 5, .int .i64 6, .int .i64 4, .int .i64 0] 3 (0, 0)) := by rw [hw0]; have := heap_alloc_new ((w.alloc (.cells #[.string ⟨#[120, 59]⟩, .string ⟨#[120, 32, 43, 32, 49, 59]⟩, .string ⟨#[120, 46, 102, 32, 61, 32, 50, 59]⟩, .string ⟨#[120, 91, 49, 93, 32, 61, 32, 50, 59]⟩, .string ⟨#[102, 40, 41, 32, 61, 32, 50, 59]⟩, .string ⟨#[49, 32, 61, 32, 50, 59]⟩, .string ⟨#[102, 40, 49, 41, 59]⟩, .string ⟨#[40, 120, 41, 32, 61, 32, 49, 59]⟩, .string ⟨#[45, 120, 32, 61, 32, 49, 59]⟩, .string ⟨#[114, 101, 116, 117, 114, 110]⟩, .string ⟨#[114, 101, 116, 117, 114, 110, 59]⟩, .string ⟨#[114, 101, 116, 117, 114, 110, 32, 49, 59]⟩, .string ⟨#[108, 101, 116, 32, 120, 32, 61, 32, 49, 59]⟩, .string ⟨#[118, 97, 114, 32, 120, 58, 32, 91, 91, 105, 110, 116, 93, 93, 59]⟩, .string ⟨#[118, 97, 114, 32, 120, 58, 32, 91, 91, 91, 91, 105, 110, 116, 93, 93, 93, 93, 59]⟩, .string ⟨#[105, 102, 32, 98, 32, 123, 32, 125, 32, 101, 108, 115, 101, 32, 102, 40, 41, 59]⟩, .string ⟨#[112, 114, 105, 110, 116, 59]⟩, .string ⟨#[119, 104, 105, 108, 101, 32, 123, 32, 125]⟩, .string ⟨#[120, 32, 61, 32, 59]⟩, .string ⟨#[102, 40, 41, 46, 103, 32, 61, 32, 49, 59]⟩] 9)).alloc (.cells #[.int .i64 0, .int .i64 0, .int .i64 4, .int .i64 4, .int .i64 0, .int .i64 0, .int .i64 9, .int .i64 3, .int .i64 0, .int .i64 0, .int .i64 7, .int .i64 7, .int .i64 0, .int .i64 1, .int .i64 0, .int .i64 0, .int .i64 0, .int .i64 0, .int .i64 0, .int .i64 4] 3)) (.cells #[.int .i64 1, .int .i64 5, .int .i64 0, .int .i64 0, .int .i64 4, .int .i64 2, .int .i64 0, .int .i64 0, .int .i64 3, .int .i64 6, .int .i64 0, .int .i64 0, .int .i64 6, .int .i64 0, .int .i64 10, .int .i64 14, .int .i64 5, .int .i64 6, .int .i64 4, .int .i64 0] 3); simp only [size_alloc] at this; exact this
  have HKK := Lib.hid hkK
  have HKA := Lib.hid hkA
  have HB0 := Lib.hid hb0
  clear hm hmk hops hkK hkA hb0
  go_enter Tryd.func4, Tryd.ntmps4
  go_wp2_with fail
  rw [← hw0]
  clear hw0
  have htk := tokens_are ⟨#[120, 32, 43, 32, 49, 59]⟩ (by decide) oddU1 0 0 oddT1 w0
  rw [oddN1] at htk
  refine (htk).mono ?_
  clear htk
  rintro e w1 ⟨A, cA, rfl, hl1, hb1⟩
  have hbf : Below w1.heap.size w1 (w1.alloc (.cells #[.int .i64 0, .int .i64 0] 25)) := (Below.refl _ _).alloc (Nat.le_refl _) _
  have ht := (toks_of (c := cA) hl1 oddS1).below hbf
  rw [oddN1] at ht
  have HT := Lib.hid ht
  have hb01 := below_seq hb1 hbf hb1.size
  have HB1 := Lib.hid (below_seq HB0.out hb01 HB0.out.size)
  have HKK1 := Lib.hid ((hb01.block _ (heap_lt' HKK.out)).trans HKK.out)
  have HKA1 := Lib.hid ((hb01.block _ (heap_lt' HKA.out)).trans HKA.out)
  clear ht hl1 hb1 hbf hb01 HKK HKA
  go_wp2_with fail
  have hlen : (oddU1.map toRT).length ≤ 90000000 := by rw [List.length_map, oddN1]; decide
  refine (stParse_any _ _ _ (oddU1.map toRT) (pxBy oddU1 (10 * 5 + 20)) (pok_of hlen (pxBy_is oddN1 (by decide))) 0 0 HT.out (by obtain ⟨gt, gfr, hg⟩ := HOP.out; exact ⟨gt, gfr, (HB1.out.block _ (heap_lt' hg)).trans hg⟩) (10 * 5 + 20) (by decide) _ HM.out).mono ?_
  rintro e w3 ⟨sk, sn, so, sd, sep, sel, sec, sbp, sbl, sbc, slp, sll, slc, sa, sr, rfl, hs, hb3⟩
  have hsk := hs.kindM
  clear hsk
  have hKr := (hb3.block _ (heap_lt' HKK1.out)).trans HKK1.out
  have hK : w3.cell? ⟨w.heap.size + 1, 1, none⟩ = some (.int .i64 0) := by rw [cell_of_row _ _ _ _ _ _ hKr]; rfl
  have hKl := heap_lt' hKr
  have hAr := (hb3.block _ (heap_lt' HKA1.out)).trans HKA1.out
  have HA := Lib.hid hAr
  have HK := Lib.hid hK
  have HL3 := Lib.hid (heap_lt' hAr)
  have HB3 := Lib.hid (below_seq HB1.out hb3 HB1.out.size)
  clear hs hb3 hKr hAr HT HKK1 HKA1 hlen
  dsimp only
  have hKw : ((w3.alloc (.cells #[.int .i64 sk, .string (cbs sn), .string (cbs so), .int .i64 sd, .slice sep sel sec, .slice sbp sbl sbc, .slice slp sll slc, .int .i64 sa, .int .i64 sr] 33)).alloc (.cells #[.int .i64 2, .int .i64 5] 25)).cell? ⟨w.heap.size + 1, 1, none⟩ = some (.int .i64 0) :=
    ((((Below.refl _ _).alloc (Nat.le_refl _) _).alloc (by rw [size_alloc]; omega) _ : Below w3.heap.size w3 ((w3.alloc (.cells #[.int .i64 sk, .string (cbs sn), .string (cbs so), .int .i64 sd, .slice sep sel sec, .slice sbp sbl sbc, .slice slp sll slc, .int .i64 sa, .int .i64 sr] 33)).alloc (.cells #[.int .i64 2, .int .i64 5] 25))).cell (p := ⟨w.heap.size + 1, 1, none⟩) hKl).trans hK
  go_wp2_with fail
  clear hK hKw
  obtain ⟨wc, hwc⟩ : ∃ wc, wc = (w3.alloc (.cells #[.int .i64 sk, .string (cbs sn), .string (cbs so), .int .i64 sd, .slice sep sel sec, .slice sbp sbl sbc, .slice slp sll slc, .int .i64 sa, .int .i64 sr] 33)).alloc (.cells #[.int .i64 2, .int .i64 5] 25) := ⟨_, rfl⟩
  try rw [← hwc]
  have hb5 : Below w3.heap.size w3 wc := by rw [hwc]; exact ((Below.refl _ _).alloc (Nat.le_refl _) _).alloc (by rw [size_alloc]; omega) _
  have hS : wc.heap[w3.heap.size]? = some (.cells #[.int .i64 sk, .string (cbs sn), .string (cbs so), .int .i64 sd, .slice sep sel sec, .slice sbp sbl sbc, .slice slp sll slc, .int .i64 sa, .int .i64 sr] 33 (0, 0)) := by rw [hwc]; exact alloc_box _ (heap_alloc_new w3 _)
  have hG : wc.heap[w3.heap.size + 1]? = some (.cells #[.int .i64 2, .int .i64 5] 25 (0, 0)) := by rw [hwc]; have := heap_alloc_new (w3.alloc (.cells #[.int .i64 sk, .string (cbs sn), .string (cbs so), .int .i64 sd, .slice sep sel sec, .slice sbp sbl sbc, .slice slp sll slc, .int .i64 sa, .int .i64 sr] 33)) (.cells #[.int .i64 2, .int .i64 5] 25); rw [size_alloc] at this; exact this
  clear hwc
  have hK := (hb5.cell (p := ⟨w.heap.size + 1, 1, none⟩) hKl).trans HK.out
  have hA : wc.cell? ⟨w.heap.size + 1 + 1, 1, none⟩ = some (.int .i64 5) := by rw [cell_of_row _ _ _ _ _ _ ((hb5.block _ HL3.out).trans HA.out)]; rfl
  have HS0 : Hid (wc.cell? ⟨w3.heap.size + 1, 0, none⟩ = some (.int .i64 2) ∧ wc.cell? ⟨w3.heap.size + 1, 1, none⟩ = some (.int .i64 5) ∧ wc.cell? ⟨w.heap.size + 1 + 1, 1, none⟩ = some (.int .i64 5)) := Lib.hid ⟨(duo hG).1.1, (duo hG).1.2, hA⟩
  have HLT := Lib.hid (show w3.heap.size + 1 < wc.heap.size ∧ w3.heap.size + 1 < wc.heap.size ∧ w.heap.size + 1 + 1 < wc.heap.size from ⟨heap_lt' hG, heap_lt' hG, by have := HL3.out; have := hb5.size; omega⟩)
  have HW := Lib.hid (below_seq HB3.out hb5 HB3.out.size)
  clear hb5 hS hG hK hA hKl HK HA HB3 HB1 HB0
  have HKN := Lib.hid (known4_any wc.drew (by obtain ⟨gt, gfr, hg⟩ := HOP.out; exact ⟨gt, gfr, (HW.out.block _ (heap_lt' hg)).trans hg⟩))
  obtain ⟨e0, e1, e2⟩ := HS0.out
  have hq := eq_f2 2 5 2 5
  go_region_held3 (fun w' => w'.cell? ⟨w3.heap.size + 1, 0, none⟩ = some (.int .i64 2) ∧ w'.cell? ⟨w3.heap.size + 1, 1, none⟩ = some (.int .i64 5) ∧ w'.cell? ⟨w.heap.size + 1 + 1, 1, none⟩ = some (.int .i64 5)) (first | exact HS0.out | exact HS4.out) (first
    | (go_at_call 8; (with_reducible refine Calls.mono HKN.out ?_); rintro e w4 ⟨rfl, hb4⟩; have HB4 := Lib.hid (below_seq ((Below.refl wc.heap.size wc).drew) hb4 (Nat.le_refl _)); have HS4 : Hid (w4.cell? ⟨w3.heap.size + 1, 0, none⟩ = some (.int .i64 2) ∧ w4.cell? ⟨w3.heap.size + 1, 1, none⟩ = some (.int .i64 5) ∧ w4.cell? ⟨w.heap.size + 1 + 1, 1, none⟩ = some (.int .i64 5)) := Lib.hid ⟨(HB4.out.cell (p := ⟨w3.heap.size + 1, 0, none⟩) HLT.out.1).trans HS0.out.1, (HB4.out.cell (p := ⟨w3.heap.size + 1, 1, none⟩) HLT.out.2.1).trans HS0.out.2.1, (HB4.out.cell (p := ⟨w.heap.size + 1 + 1, 1, none⟩) HLT.out.2.2).trans HS0.out.2.2⟩; clear hb4 HKN))
  go_wp2_with fail
  go_ret
  exact ⟨rfl, below_seq HW.out HB4.out HW.out.size⟩

def oddU2 : List Ln.Lx.Tk := (Ln.Lx.toks [120, 46, 102, 32, 61, 32, 50, 59]).1
set_option maxRecDepth 40000 in
theorem oddT2 : Ln.Lx.toks [120, 46, 102, 32, 61, 32, 50, 59] = (oddU2, 0, 0) := by kernel_rfl
theorem oddN2 : oddU2.length = 7 := by kernel_rfl
set_option maxRecDepth 40000 in
theorem oddP2 : oddly oddU2 7 = some (4, 6, 0, 0) := by kernel_rfl
theorem oddS2 : ∀ t ∈ oddU2, t.text.length ≤ 281474976710656 := by
  have h : (oddU2.all fun t => decide (t.text.length ≤ 281474976710656)) = true := by kernel_rfl
  exact fun t ht => of_decide_eq_true (List.all_eq_true.1 h t ht)

set_option maxRecDepth 40000 in
set_option maxHeartbeats 8000000 in
theorem odd4_2 (w : World) (hops : OpsIn w) :
    Calls Tryd.prog 4 #[.int .i64 2] w fun e w' => e = .returned (.bool true) ∧ Below w.heap.size w w' := by
  obtain ⟨m, hm, hmk⟩ := oddly_out oddP2
  have HM := Lib.hid hm
  have HMK := Lib.hid hmk
  have HOP := Lib.hid hops
  obtain ⟨w0, hw0⟩ : ∃ w0, w0 = ((w.alloc (.cells #[.string ⟨#[120, 59]⟩, .string ⟨#[120, 32, 43, 32, 49, 59]⟩, .string ⟨#[120, 46, 102, 32, 61, 32, 50, 59]⟩, .string ⟨#[120, 91, 49, 93, 32, 61, 32, 50, 59]⟩, .string ⟨#[102, 40, 41, 32, 61, 32, 50, 59]⟩, .string ⟨#[49, 32, 61, 32, 50, 59]⟩, .string ⟨#[102, 40, 49, 41, 59]⟩, .string ⟨#[40, 120, 41, 32, 61, 32, 49, 59]⟩, .string ⟨#[45, 120, 32, 61, 32, 49, 59]⟩, .string ⟨#[114, 101, 116, 117, 114, 110]⟩, .string ⟨#[114, 101, 116, 117, 114, 110, 59]⟩, .string ⟨#[114, 101, 116, 117, 114, 110, 32, 49, 59]⟩, .string ⟨#[108, 101, 116, 32, 120, 32, 61, 32, 49, 59]⟩, .string ⟨#[118, 97, 114, 32, 120, 58, 32, 91, 91, 105, 110, 116, 93, 93, 59]⟩, .string ⟨#[118, 97, 114, 32, 120, 58, 32, 91, 91, 91, 91, 105, 110, 116, 93, 93, 93, 93, 59]⟩, .string ⟨#[105, 102, 32, 98, 32, 123, 32, 125, 32, 101, 108, 115, 101, 32, 102, 40, 41, 59]⟩, .string ⟨#[112, 114, 105, 110, 116, 59]⟩, .string ⟨#[119, 104, 105, 108, 101, 32, 123, 32, 125]⟩, .string ⟨#[120, 32, 61, 32, 59]⟩, .string ⟨#[102, 40, 41, 46, 103, 32, 61, 32, 49, 59]⟩] 9)).alloc (.cells #[.int .i64 0, .int .i64 0, .int .i64 4, .int .i64 4, .int .i64 0, .int .i64 0, .int .i64 9, .int .i64 3, .int .i64 0, .int .i64 0, .int .i64 7, .int .i64 7, .int .i64 0, .int .i64 1, .int .i64 0, .int .i64 0, .int .i64 0, .int .i64 0, .int .i64 0, .int .i64 4] 3)).alloc (.cells #[.int .i64 1, .int .i64 5, .int .i64 0, .int .i64 0, .int .i64 4, .int .i64 2, .int .i64 0, .int .i64 0, .int .i64 3, .int .i64 6, .int .i64 0, .int .i64 0, .int .i64 6, .int .i64 0, .int .i64 10, .int .i64 14, .int .i64 5, .int .i64 6, .int .i64 4, .int .i64 0] 3) := ⟨_, rfl⟩
  have hb0 : Below w.heap.size w w0 := by rw [hw0]; exact (((Below.refl _ _).alloc (Nat.le_refl _) _).alloc (by simp only [size_alloc]; omega) _).alloc (by simp only [size_alloc]; omega) _
  have hkK : w0.heap[w.heap.size + 1]? = some (.cells #[.int .i64 0, .int .i64 0, .int .i64 4, .int .i64 4, .int .i64 0, .int .i64 0, .int .i64 9, .int .i64 3, .int .i64 0, .int .i64 0, .int .i64 7, .int .i64 7, .int .i64 0, .int .i64 1, .int .i64 0, .int .i64 0, .int .i64 0, .int .i64 0, .int .i64 0, .int .i64 4] 3 (0, 0)) := by rw [hw0]; have := heap_alloc_new (w.alloc (.cells #[.string ⟨#[120, 59]⟩, .string ⟨#[120, 32, 43, 32, 49, 59]⟩, .string ⟨#[120, 46, 102, 32, 61, 32, 50, 59]⟩, .string ⟨#[120, 91, 49, 93, 32, 61, 32, 50, 59]⟩, .string ⟨#[102, 40, 41, 32, 61, 32, 50, 59]⟩, .string ⟨#[49, 32, 61, 32, 50, 59]⟩, .string ⟨#[102, 40, 49, 41, 59]⟩, .string ⟨#[40, 120, 41, 32, 61, 32, 49, 59]⟩, .string ⟨#[45, 120, 32, 61, 32, 49, 59]⟩, .string ⟨#[114, 101, 116, 117, 114, 110]⟩, .string ⟨#[114, 101, 116, 117, 114, 110, 59]⟩, .string ⟨#[114, 101, 116, 117, 114, 110, 32, 49, 59]⟩, .string ⟨#[108, 101, 116, 32, 120, 32, 61, 32, 49, 59]⟩, .string ⟨#[118, 97, 114, 32, 120, 58, 32, 91, 91, 105, 110, 116, 93, 93, 59]⟩, .string ⟨#[118, 97, 114, 32, 120, 58, 32, 91, 91, 91, 91, 105, 110, 116, 93, 93, 93, 93, 59]⟩, .string ⟨#[105, 102, 32, 98, 32, 123, 32, 125, 32, 101, 108, 115, 101, 32, 102, 40, 41, 59]⟩, .string ⟨#[112, 114, 105, 110, 116, 59]⟩, .string ⟨#[119, 104, 105, 108, 101, 32, 123, 32, 125]⟩, .string ⟨#[120, 32, 61, 32, 59]⟩, .string ⟨#[102, 40, 41, 46, 103, 32, 61, 32, 49, 59]⟩] 9)) (.cells #[.int .i64 0, .int .i64 0, .int .i64 4, .int .i64 4, .int .i64 0, .int .i64 0, .int .i64 9, .int .i64 3, .int .i64 0, .int .i64 0, .int .i64 7, .int .i64 7, .int .i64 0, .int .i64 1, .int .i64 0, .int .i64 0, .int .i64 0, .int .i64 0, .int .i64 0, .int .i64 4] 3); rw [size_alloc] at this; exact alloc_box _ this
  have hkA : w0.heap[w.heap.size + 1 + 1]? = some (.cells #[.int .i64 1, .int .i64 5, .int .i64 0, .int .i64 0, .int .i64 4, .int .i64 2, .int .i64 0, .int .i64 0, .int .i64 3, .int .i64 6, .int .i64 0, .int .i64 0, .int .i64 6, .int .i64 0, .int .i64 10, .int .i64 14, .int .i64 5, .int .i64 6, .int .i64 4, .int .i64 0] 3 (0, 0)) := by rw [hw0]; have := heap_alloc_new ((w.alloc (.cells #[.string ⟨#[120, 59]⟩, .string ⟨#[120, 32, 43, 32, 49, 59]⟩, .string ⟨#[120, 46, 102, 32, 61, 32, 50, 59]⟩, .string ⟨#[120, 91, 49, 93, 32, 61, 32, 50, 59]⟩, .string ⟨#[102, 40, 41, 32, 61, 32, 50, 59]⟩, .string ⟨#[49, 32, 61, 32, 50, 59]⟩, .string ⟨#[102, 40, 49, 41, 59]⟩, .string ⟨#[40, 120, 41, 32, 61, 32, 49, 59]⟩, .string ⟨#[45, 120, 32, 61, 32, 49, 59]⟩, .string ⟨#[114, 101, 116, 117, 114, 110]⟩, .string ⟨#[114, 101, 116, 117, 114, 110, 59]⟩, .string ⟨#[114, 101, 116, 117, 114, 110, 32, 49, 59]⟩, .string ⟨#[108, 101, 116, 32, 120, 32, 61, 32, 49, 59]⟩, .string ⟨#[118, 97, 114, 32, 120, 58, 32, 91, 91, 105, 110, 116, 93, 93, 59]⟩, .string ⟨#[118, 97, 114, 32, 120, 58, 32, 91, 91, 91, 91, 105, 110, 116, 93, 93, 93, 93, 59]⟩, .string ⟨#[105, 102, 32, 98, 32, 123, 32, 125, 32, 101, 108, 115, 101, 32, 102, 40, 41, 59]⟩, .string ⟨#[112, 114, 105, 110, 116, 59]⟩, .string ⟨#[119, 104, 105, 108, 101, 32, 123, 32, 125]⟩, .string ⟨#[120, 32, 61, 32, 59]⟩, .string ⟨#[102, 40, 41, 46, 103, 32, 61, 32, 49, 59]⟩] 9)).alloc (.cells #[.int .i64 0, .int .i64 0, .int .i64 4, .int .i64 4, .int .i64 0, .int .i64 0, .int .i64 9, .int .i64 3, .int .i64 0, .int .i64 0, .int .i64 7, .int .i64 7, .int .i64 0, .int .i64 1, .int .i64 0, .int .i64 0, .int .i64 0, .int .i64 0, .int .i64 0, .int .i64 4] 3)) (.cells #[.int .i64 1, .int .i64 5, .int .i64 0, .int .i64 0, .int .i64 4, .int .i64 2, .int .i64 0, .int .i64 0, .int .i64 3, .int .i64 6, .int .i64 0, .int .i64 0, .int .i64 6, .int .i64 0, .int .i64 10, .int .i64 14, .int .i64 5, .int .i64 6, .int .i64 4, .int .i64 0] 3); simp only [size_alloc] at this; exact this
  have HKK := Lib.hid hkK
  have HKA := Lib.hid hkA
  have HB0 := Lib.hid hb0
  clear hm hmk hops hkK hkA hb0
  go_enter Tryd.func4, Tryd.ntmps4
  go_wp2_with fail
  rw [← hw0]
  clear hw0
  have htk := tokens_are ⟨#[120, 46, 102, 32, 61, 32, 50, 59]⟩ (by decide) oddU2 0 0 oddT2 w0
  rw [oddN2] at htk
  refine (htk).mono ?_
  clear htk
  rintro e w1 ⟨A, cA, rfl, hl1, hb1⟩
  have hbf : Below w1.heap.size w1 (w1.alloc (.cells #[.int .i64 0, .int .i64 0] 25)) := (Below.refl _ _).alloc (Nat.le_refl _) _
  have ht := (toks_of (c := cA) hl1 oddS2).below hbf
  rw [oddN2] at ht
  have HT := Lib.hid ht
  have hb01 := below_seq hb1 hbf hb1.size
  have HB1 := Lib.hid (below_seq HB0.out hb01 HB0.out.size)
  have HKK1 := Lib.hid ((hb01.block _ (heap_lt' HKK.out)).trans HKK.out)
  have HKA1 := Lib.hid ((hb01.block _ (heap_lt' HKA.out)).trans HKA.out)
  clear ht hl1 hb1 hbf hb01 HKK HKA
  go_wp2_with fail
  have hlen : (oddU2.map toRT).length ≤ 90000000 := by rw [List.length_map, oddN2]; decide
  refine (stParse_any _ _ _ (oddU2.map toRT) (pxBy oddU2 (10 * 7 + 20)) (pok_of hlen (pxBy_is oddN2 (by decide))) 0 0 HT.out (by obtain ⟨gt, gfr, hg⟩ := HOP.out; exact ⟨gt, gfr, (HB1.out.block _ (heap_lt' hg)).trans hg⟩) (10 * 7 + 20) (by decide) _ HM.out).mono ?_
  rintro e w3 ⟨sk, sn, so, sd, sep, sel, sec, sbp, sbl, sbc, slp, sll, slc, sa, sr, rfl, hs, hb3⟩
  have hsk := hs.kindM
  rw [HMK.out] at hsk
  subst hsk
  have hKr := (hb3.block _ (heap_lt' HKK1.out)).trans HKK1.out
  have hK : w3.cell? ⟨w.heap.size + 1, 2, none⟩ = some (.int .i64 4) := by rw [cell_of_row _ _ _ _ _ _ hKr]; rfl
  have hKl := heap_lt' hKr
  have hAr := (hb3.block _ (heap_lt' HKA1.out)).trans HKA1.out
  have HA := Lib.hid hAr
  have HK := Lib.hid hK
  have HL3 := Lib.hid (heap_lt' hAr)
  have HB3 := Lib.hid (below_seq HB1.out hb3 HB1.out.size)
  clear hs hb3 hKr hAr HT HKK1 HKA1 hlen
  dsimp only
  have hKw : ((w3.alloc (.cells #[.int .i64 4, .string (cbs sn), .string (cbs so), .int .i64 sd, .slice sep sel sec, .slice sbp sbl sbc, .slice slp sll slc, .int .i64 sa, .int .i64 sr] 33)).alloc (.cells #[.int .i64 0, .int .i64 0] 25)).cell? ⟨w.heap.size + 1, 2, none⟩ = some (.int .i64 4) :=
    ((((Below.refl _ _).alloc (Nat.le_refl _) _).alloc (by rw [size_alloc]; omega) _ : Below w3.heap.size w3 ((w3.alloc (.cells #[.int .i64 4, .string (cbs sn), .string (cbs so), .int .i64 sd, .slice sep sel sec, .slice sbp sbl sbc, .slice slp sll slc, .int .i64 sa, .int .i64 sr] 33)).alloc (.cells #[.int .i64 0, .int .i64 0] 25))).cell (p := ⟨w.heap.size + 1, 2, none⟩) hKl).trans hK
  go_wp2_with fail
  clear hK hKw
  obtain ⟨wc, hwc⟩ : ∃ wc, wc = (w3.alloc (.cells #[.int .i64 4, .string (cbs sn), .string (cbs so), .int .i64 sd, .slice sep sel sec, .slice sbp sbl sbc, .slice slp sll slc, .int .i64 sa, .int .i64 sr] 33)).alloc (.cells #[.int .i64 0, .int .i64 0] 25) := ⟨_, rfl⟩
  try rw [← hwc]
  have hb5 : Below w3.heap.size w3 wc := by rw [hwc]; exact ((Below.refl _ _).alloc (Nat.le_refl _) _).alloc (by rw [size_alloc]; omega) _
  have hS : wc.heap[w3.heap.size]? = some (.cells #[.int .i64 4, .string (cbs sn), .string (cbs so), .int .i64 sd, .slice sep sel sec, .slice sbp sbl sbc, .slice slp sll slc, .int .i64 sa, .int .i64 sr] 33 (0, 0)) := by rw [hwc]; exact alloc_box _ (heap_alloc_new w3 _)
  have hG : wc.heap[w3.heap.size + 1]? = some (.cells #[.int .i64 0, .int .i64 0] 25 (0, 0)) := by rw [hwc]; have := heap_alloc_new (w3.alloc (.cells #[.int .i64 4, .string (cbs sn), .string (cbs so), .int .i64 sd, .slice sep sel sec, .slice sbp sbl sbc, .slice slp sll slc, .int .i64 sa, .int .i64 sr] 33)) (.cells #[.int .i64 0, .int .i64 0] 25); rw [size_alloc] at this; exact this
  clear hwc
  have hK := (hb5.cell (p := ⟨w.heap.size + 1, 2, none⟩) hKl).trans HK.out
  have hA : wc.cell? ⟨w.heap.size + 1 + 1, 2, none⟩ = some (.int .i64 0) := by rw [cell_of_row _ _ _ _ _ _ ((hb5.block _ HL3.out).trans HA.out)]; rfl
  have HS0 : Hid (wc.cell? ⟨w3.heap.size + 1, 0, none⟩ = some (.int .i64 0) ∧ wc.cell? ⟨w3.heap.size, 0, none⟩ = some (.int .i64 4) ∧ wc.cell? ⟨w.heap.size + 1, 2, none⟩ = some (.int .i64 4)) := Lib.hid ⟨(duo hG).1.1, (nen hS).1.1, hK⟩
  have HLT := Lib.hid (show w3.heap.size + 1 < wc.heap.size ∧ w3.heap.size < wc.heap.size ∧ w.heap.size + 1 < wc.heap.size from ⟨heap_lt' hG, heap_lt' hS, by have := HL3.out; have := hb5.size; omega⟩)
  have HW := Lib.hid (below_seq HB3.out hb5 HB3.out.size)
  clear hb5 hS hG hK hA hKl HK HA HB3 HB1 HB0
  have HKN := Lib.hid (known4_any wc.drew (by obtain ⟨gt, gfr, hg⟩ := HOP.out; exact ⟨gt, gfr, (HW.out.block _ (heap_lt' hg)).trans hg⟩))
  obtain ⟨e0, e1, e2⟩ := HS0.out
  have hwr : IntKind.i64.wrap (6 : Int) = 6 := by decide
  go_region_held3 (fun w' => w'.cell? ⟨w3.heap.size + 1, 0, none⟩ = some (.int .i64 0) ∧ w'.cell? ⟨w3.heap.size, 0, none⟩ = some (.int .i64 4) ∧ w'.cell? ⟨w.heap.size + 1, 2, none⟩ = some (.int .i64 4)) (first | exact HS0.out | exact HS4.out) (first
    | (go_at_call 8; (with_reducible refine Calls.mono HKN.out ?_); rintro e w4 ⟨rfl, hb4⟩; have HB4 := Lib.hid (below_seq ((Below.refl wc.heap.size wc).drew) hb4 (Nat.le_refl _)); have HS4 : Hid (w4.cell? ⟨w3.heap.size + 1, 0, none⟩ = some (.int .i64 0) ∧ w4.cell? ⟨w3.heap.size, 0, none⟩ = some (.int .i64 4) ∧ w4.cell? ⟨w.heap.size + 1, 2, none⟩ = some (.int .i64 4)) := Lib.hid ⟨(HB4.out.cell (p := ⟨w3.heap.size + 1, 0, none⟩) HLT.out.1).trans HS0.out.1, (HB4.out.cell (p := ⟨w3.heap.size, 0, none⟩) HLT.out.2.1).trans HS0.out.2.1, (HB4.out.cell (p := ⟨w.heap.size + 1, 2, none⟩) HLT.out.2.2).trans HS0.out.2.2⟩; clear hb4 HKN))
  go_wp2_with fail
  go_ret
  exact ⟨rfl, below_seq HW.out HB4.out HW.out.size⟩

def oddU3 : List Ln.Lx.Tk := (Ln.Lx.toks [120, 91, 49, 93, 32, 61, 32, 50, 59]).1
set_option maxRecDepth 40000 in
theorem oddT3 : Ln.Lx.toks [120, 91, 49, 93, 32, 61, 32, 50, 59] = (oddU3, 0, 0) := by kernel_rfl
theorem oddN3 : oddU3.length = 8 := by kernel_rfl
set_option maxRecDepth 40000 in
theorem oddP3 : oddly oddU3 8 = some (4, 7, 0, 0) := by kernel_rfl
theorem oddS3 : ∀ t ∈ oddU3, t.text.length ≤ 281474976710656 := by
  have h : (oddU3.all fun t => decide (t.text.length ≤ 281474976710656)) = true := by kernel_rfl
  exact fun t ht => of_decide_eq_true (List.all_eq_true.1 h t ht)

set_option maxRecDepth 40000 in
set_option maxHeartbeats 8000000 in
theorem odd4_3 (w : World) (hops : OpsIn w) :
    Calls Tryd.prog 4 #[.int .i64 3] w fun e w' => e = .returned (.bool true) ∧ Below w.heap.size w w' := by
  obtain ⟨m, hm, hmk⟩ := oddly_out oddP3
  have HM := Lib.hid hm
  have HMK := Lib.hid hmk
  have HOP := Lib.hid hops
  obtain ⟨w0, hw0⟩ : ∃ w0, w0 = ((w.alloc (.cells #[.string ⟨#[120, 59]⟩, .string ⟨#[120, 32, 43, 32, 49, 59]⟩, .string ⟨#[120, 46, 102, 32, 61, 32, 50, 59]⟩, .string ⟨#[120, 91, 49, 93, 32, 61, 32, 50, 59]⟩, .string ⟨#[102, 40, 41, 32, 61, 32, 50, 59]⟩, .string ⟨#[49, 32, 61, 32, 50, 59]⟩, .string ⟨#[102, 40, 49, 41, 59]⟩, .string ⟨#[40, 120, 41, 32, 61, 32, 49, 59]⟩, .string ⟨#[45, 120, 32, 61, 32, 49, 59]⟩, .string ⟨#[114, 101, 116, 117, 114, 110]⟩, .string ⟨#[114, 101, 116, 117, 114, 110, 59]⟩, .string ⟨#[114, 101, 116, 117, 114, 110, 32, 49, 59]⟩, .string ⟨#[108, 101, 116, 32, 120, 32, 61, 32, 49, 59]⟩, .string ⟨#[118, 97, 114, 32, 120, 58, 32, 91, 91, 105, 110, 116, 93, 93, 59]⟩, .string ⟨#[118, 97, 114, 32, 120, 58, 32, 91, 91, 91, 91, 105, 110, 116, 93, 93, 93, 93, 59]⟩, .string ⟨#[105, 102, 32, 98, 32, 123, 32, 125, 32, 101, 108, 115, 101, 32, 102, 40, 41, 59]⟩, .string ⟨#[112, 114, 105, 110, 116, 59]⟩, .string ⟨#[119, 104, 105, 108, 101, 32, 123, 32, 125]⟩, .string ⟨#[120, 32, 61, 32, 59]⟩, .string ⟨#[102, 40, 41, 46, 103, 32, 61, 32, 49, 59]⟩] 9)).alloc (.cells #[.int .i64 0, .int .i64 0, .int .i64 4, .int .i64 4, .int .i64 0, .int .i64 0, .int .i64 9, .int .i64 3, .int .i64 0, .int .i64 0, .int .i64 7, .int .i64 7, .int .i64 0, .int .i64 1, .int .i64 0, .int .i64 0, .int .i64 0, .int .i64 0, .int .i64 0, .int .i64 4] 3)).alloc (.cells #[.int .i64 1, .int .i64 5, .int .i64 0, .int .i64 0, .int .i64 4, .int .i64 2, .int .i64 0, .int .i64 0, .int .i64 3, .int .i64 6, .int .i64 0, .int .i64 0, .int .i64 6, .int .i64 0, .int .i64 10, .int .i64 14, .int .i64 5, .int .i64 6, .int .i64 4, .int .i64 0] 3) := ⟨_, rfl⟩
  have hb0 : Below w.heap.size w w0 := by rw [hw0]; exact (((Below.refl _ _).alloc (Nat.le_refl _) _).alloc (by simp only [size_alloc]; omega) _).alloc (by simp only [size_alloc]; omega) _
  have hkK : w0.heap[w.heap.size + 1]? = some (.cells #[.int .i64 0, .int .i64 0, .int .i64 4, .int .i64 4, .int .i64 0, .int .i64 0, .int .i64 9, .int .i64 3, .int .i64 0, .int .i64 0, .int .i64 7, .int .i64 7, .int .i64 0, .int .i64 1, .int .i64 0, .int .i64 0, .int .i64 0, .int .i64 0, .int .i64 0, .int .i64 4] 3 (0, 0)) := by rw [hw0]; have := heap_alloc_new (w.alloc (.cells #[.string ⟨#[120, 59]⟩, .string ⟨#[120, 32, 43, 32, 49, 59]⟩, .string ⟨#[120, 46, 102, 32, 61, 32, 50, 59]⟩, .string ⟨#[120, 91, 49, 93, 32, 61, 32, 50, 59]⟩, .string ⟨#[102, 40, 41, 32, 61, 32, 50, 59]⟩, .string ⟨#[49, 32, 61, 32, 50, 59]⟩, .string ⟨#[102, 40, 49, 41, 59]⟩, .string ⟨#[40, 120, 41, 32, 61, 32, 49, 59]⟩, .string ⟨#[45, 120, 32, 61, 32, 49, 59]⟩, .string ⟨#[114, 101, 116, 117, 114, 110]⟩, .string ⟨#[114, 101, 116, 117, 114, 110, 59]⟩, .string ⟨#[114, 101, 116, 117, 114, 110, 32, 49, 59]⟩, .string ⟨#[108, 101, 116, 32, 120, 32, 61, 32, 49, 59]⟩, .string ⟨#[118, 97, 114, 32, 120, 58, 32, 91, 91, 105, 110, 116, 93, 93, 59]⟩, .string ⟨#[118, 97, 114, 32, 120, 58, 32, 91, 91, 91, 91, 105, 110, 116, 93, 93, 93, 93, 59]⟩, .string ⟨#[105, 102, 32, 98, 32, 123, 32, 125, 32, 101, 108, 115, 101, 32, 102, 40, 41, 59]⟩, .string ⟨#[112, 114, 105, 110, 116, 59]⟩, .string ⟨#[119, 104, 105, 108, 101, 32, 123, 32, 125]⟩, .string ⟨#[120, 32, 61, 32, 59]⟩, .string ⟨#[102, 40, 41, 46, 103, 32, 61, 32, 49, 59]⟩] 9)) (.cells #[.int .i64 0, .int .i64 0, .int .i64 4, .int .i64 4, .int .i64 0, .int .i64 0, .int .i64 9, .int .i64 3, .int .i64 0, .int .i64 0, .int .i64 7, .int .i64 7, .int .i64 0, .int .i64 1, .int .i64 0, .int .i64 0, .int .i64 0, .int .i64 0, .int .i64 0, .int .i64 4] 3); rw [size_alloc] at this; exact alloc_box _ this
  have hkA : w0.heap[w.heap.size + 1 + 1]? = some (.cells #[.int .i64 1, .int .i64 5, .int .i64 0, .int .i64 0, .int .i64 4, .int .i64 2, .int .i64 0, .int .i64 0, .int .i64 3, .int .i64 6, .int .i64 0, .int .i64 0, .int .i64 6, .int .i64 0, .int .i64 10, .int .i64 14, .int .i64 5, .int .i64 6, .int .i64 4, .int .i64 0] 3 (0, 0)) := by rw [hw0]; have := heap_alloc_new ((w.alloc (.cells #[.string ⟨#[120, 59]⟩, .string ⟨#[120, 32, 43, 32, 49, 59]⟩, .string ⟨#[120, 46, 102, 32, 61, 32, 50, 59]⟩, .string ⟨#[120, 91, 49, 93, 32, 61, 32, 50, 59]⟩, .string ⟨#[102, 40, 41, 32, 61, 32, 50, 59]⟩, .string ⟨#[49, 32, 61, 32, 50, 59]⟩, .string ⟨#[102, 40, 49, 41, 59]⟩, .string ⟨#[40, 120, 41, 32, 61, 32, 49, 59]⟩, .string ⟨#[45, 120, 32, 61, 32, 49, 59]⟩, .string ⟨#[114, 101, 116, 117, 114, 110]⟩, .string ⟨#[114, 101, 116, 117, 114, 110, 59]⟩, .string ⟨#[114, 101, 116, 117, 114, 110, 32, 49, 59]⟩, .string ⟨#[108, 101, 116, 32, 120, 32, 61, 32, 49, 59]⟩, .string ⟨#[118, 97, 114, 32, 120, 58, 32, 91, 91, 105, 110, 116, 93, 93, 59]⟩, .string ⟨#[118, 97, 114, 32, 120, 58, 32, 91, 91, 91, 91, 105, 110, 116, 93, 93, 93, 93, 59]⟩, .string ⟨#[105, 102, 32, 98, 32, 123, 32, 125, 32, 101, 108, 115, 101, 32, 102, 40, 41, 59]⟩, .string ⟨#[112, 114, 105, 110, 116, 59]⟩, .string ⟨#[119, 104, 105, 108, 101, 32, 123, 32, 125]⟩, .string ⟨#[120, 32, 61, 32, 59]⟩, .string ⟨#[102, 40, 41, 46, 103, 32, 61, 32, 49, 59]⟩] 9)).alloc (.cells #[.int .i64 0, .int .i64 0, .int .i64 4, .int .i64 4, .int .i64 0, .int .i64 0, .int .i64 9, .int .i64 3, .int .i64 0, .int .i64 0, .int .i64 7, .int .i64 7, .int .i64 0, .int .i64 1, .int .i64 0, .int .i64 0, .int .i64 0, .int .i64 0, .int .i64 0, .int .i64 4] 3)) (.cells #[.int .i64 1, .int .i64 5, .int .i64 0, .int .i64 0, .int .i64 4, .int .i64 2, .int .i64 0, .int .i64 0, .int .i64 3, .int .i64 6, .int .i64 0, .int .i64 0, .int .i64 6, .int .i64 0, .int .i64 10, .int .i64 14, .int .i64 5, .int .i64 6, .int .i64 4, .int .i64 0] 3); simp only [size_alloc] at this; exact this
  have HKK := Lib.hid hkK
  have HKA := Lib.hid hkA
  have HB0 := Lib.hid hb0
  clear hm hmk hops hkK hkA hb0
  go_enter Tryd.func4, Tryd.ntmps4
  go_wp2_with fail
  rw [← hw0]
  clear hw0
  have htk := tokens_are ⟨#[120, 91, 49, 93, 32, 61, 32, 50, 59]⟩ (by decide) oddU3 0 0 oddT3 w0
  rw [oddN3] at htk
  refine (htk).mono ?_
  clear htk
  rintro e w1 ⟨A, cA, rfl, hl1, hb1⟩
  have hbf : Below w1.heap.size w1 (w1.alloc (.cells #[.int .i64 0, .int .i64 0] 25)) := (Below.refl _ _).alloc (Nat.le_refl _) _
  have ht := (toks_of (c := cA) hl1 oddS3).below hbf
  rw [oddN3] at ht
  have HT := Lib.hid ht
  have hb01 := below_seq hb1 hbf hb1.size
  have HB1 := Lib.hid (below_seq HB0.out hb01 HB0.out.size)
  have HKK1 := Lib.hid ((hb01.block _ (heap_lt' HKK.out)).trans HKK.out)
  have HKA1 := Lib.hid ((hb01.block _ (heap_lt' HKA.out)).trans HKA.out)
  clear ht hl1 hb1 hbf hb01 HKK HKA
  go_wp2_with fail
  have hlen : (oddU3.map toRT).length ≤ 90000000 := by rw [List.length_map, oddN3]; decide
  refine (stParse_any _ _ _ (oddU3.map toRT) (pxBy oddU3 (10 * 8 + 20)) (pok_of hlen (pxBy_is oddN3 (by decide))) 0 0 HT.out (by obtain ⟨gt, gfr, hg⟩ := HOP.out; exact ⟨gt, gfr, (HB1.out.block _ (heap_lt' hg)).trans hg⟩) (10 * 8 + 20) (by decide) _ HM.out).mono ?_
  rintro e w3 ⟨sk, sn, so, sd, sep, sel, sec, sbp, sbl, sbc, slp, sll, slc, sa, sr, rfl, hs, hb3⟩
  have hsk := hs.kindM
  rw [HMK.out] at hsk
  subst hsk
  have hKr := (hb3.block _ (heap_lt' HKK1.out)).trans HKK1.out
  have hK : w3.cell? ⟨w.heap.size + 1, 3, none⟩ = some (.int .i64 4) := by rw [cell_of_row _ _ _ _ _ _ hKr]; rfl
  have hKl := heap_lt' hKr
  have hAr := (hb3.block _ (heap_lt' HKA1.out)).trans HKA1.out
  have HA := Lib.hid hAr
  have HK := Lib.hid hK
  have HL3 := Lib.hid (heap_lt' hAr)
  have HB3 := Lib.hid (below_seq HB1.out hb3 HB1.out.size)
  clear hs hb3 hKr hAr HT HKK1 HKA1 hlen
  dsimp only
  have hKw : ((w3.alloc (.cells #[.int .i64 4, .string (cbs sn), .string (cbs so), .int .i64 sd, .slice sep sel sec, .slice sbp sbl sbc, .slice slp sll slc, .int .i64 sa, .int .i64 sr] 33)).alloc (.cells #[.int .i64 0, .int .i64 0] 25)).cell? ⟨w.heap.size + 1, 3, none⟩ = some (.int .i64 4) :=
    ((((Below.refl _ _).alloc (Nat.le_refl _) _).alloc (by rw [size_alloc]; omega) _ : Below w3.heap.size w3 ((w3.alloc (.cells #[.int .i64 4, .string (cbs sn), .string (cbs so), .int .i64 sd, .slice sep sel sec, .slice sbp sbl sbc, .slice slp sll slc, .int .i64 sa, .int .i64 sr] 33)).alloc (.cells #[.int .i64 0, .int .i64 0] 25))).cell (p := ⟨w.heap.size + 1, 3, none⟩) hKl).trans hK
  go_wp2_with fail
  clear hK hKw
  obtain ⟨wc, hwc⟩ : ∃ wc, wc = (w3.alloc (.cells #[.int .i64 4, .string (cbs sn), .string (cbs so), .int .i64 sd, .slice sep sel sec, .slice sbp sbl sbc, .slice slp sll slc, .int .i64 sa, .int .i64 sr] 33)).alloc (.cells #[.int .i64 0, .int .i64 0] 25) := ⟨_, rfl⟩
  try rw [← hwc]
  have hb5 : Below w3.heap.size w3 wc := by rw [hwc]; exact ((Below.refl _ _).alloc (Nat.le_refl _) _).alloc (by rw [size_alloc]; omega) _
  have hS : wc.heap[w3.heap.size]? = some (.cells #[.int .i64 4, .string (cbs sn), .string (cbs so), .int .i64 sd, .slice sep sel sec, .slice sbp sbl sbc, .slice slp sll slc, .int .i64 sa, .int .i64 sr] 33 (0, 0)) := by rw [hwc]; exact alloc_box _ (heap_alloc_new w3 _)
  have hG : wc.heap[w3.heap.size + 1]? = some (.cells #[.int .i64 0, .int .i64 0] 25 (0, 0)) := by rw [hwc]; have := heap_alloc_new (w3.alloc (.cells #[.int .i64 4, .string (cbs sn), .string (cbs so), .int .i64 sd, .slice sep sel sec, .slice sbp sbl sbc, .slice slp sll slc, .int .i64 sa, .int .i64 sr] 33)) (.cells #[.int .i64 0, .int .i64 0] 25); rw [size_alloc] at this; exact this
  clear hwc
  have hK := (hb5.cell (p := ⟨w.heap.size + 1, 3, none⟩) hKl).trans HK.out
  have hA : wc.cell? ⟨w.heap.size + 1 + 1, 3, none⟩ = some (.int .i64 0) := by rw [cell_of_row _ _ _ _ _ _ ((hb5.block _ HL3.out).trans HA.out)]; rfl
  have HS0 : Hid (wc.cell? ⟨w3.heap.size + 1, 0, none⟩ = some (.int .i64 0) ∧ wc.cell? ⟨w3.heap.size, 0, none⟩ = some (.int .i64 4) ∧ wc.cell? ⟨w.heap.size + 1, 3, none⟩ = some (.int .i64 4)) := Lib.hid ⟨(duo hG).1.1, (nen hS).1.1, hK⟩
  have HLT := Lib.hid (show w3.heap.size + 1 < wc.heap.size ∧ w3.heap.size < wc.heap.size ∧ w.heap.size + 1 < wc.heap.size from ⟨heap_lt' hG, heap_lt' hS, by have := HL3.out; have := hb5.size; omega⟩)
  have HW := Lib.hid (below_seq HB3.out hb5 HB3.out.size)
  clear hb5 hS hG hK hA hKl HK HA HB3 HB1 HB0
  have HKN := Lib.hid (known4_any wc.drew (by obtain ⟨gt, gfr, hg⟩ := HOP.out; exact ⟨gt, gfr, (HW.out.block _ (heap_lt' hg)).trans hg⟩))
  obtain ⟨e0, e1, e2⟩ := HS0.out
  have hwr : IntKind.i64.wrap (7 : Int) = 7 := by decide
  go_region_held3 (fun w' => w'.cell? ⟨w3.heap.size + 1, 0, none⟩ = some (.int .i64 0) ∧ w'.cell? ⟨w3.heap.size, 0, none⟩ = some (.int .i64 4) ∧ w'.cell? ⟨w.heap.size + 1, 3, none⟩ = some (.int .i64 4)) (first | exact HS0.out | exact HS4.out) (first
    | (go_at_call 8; (with_reducible refine Calls.mono HKN.out ?_); rintro e w4 ⟨rfl, hb4⟩; have HB4 := Lib.hid (below_seq ((Below.refl wc.heap.size wc).drew) hb4 (Nat.le_refl _)); have HS4 : Hid (w4.cell? ⟨w3.heap.size + 1, 0, none⟩ = some (.int .i64 0) ∧ w4.cell? ⟨w3.heap.size, 0, none⟩ = some (.int .i64 4) ∧ w4.cell? ⟨w.heap.size + 1, 3, none⟩ = some (.int .i64 4)) := Lib.hid ⟨(HB4.out.cell (p := ⟨w3.heap.size + 1, 0, none⟩) HLT.out.1).trans HS0.out.1, (HB4.out.cell (p := ⟨w3.heap.size, 0, none⟩) HLT.out.2.1).trans HS0.out.2.1, (HB4.out.cell (p := ⟨w.heap.size + 1, 3, none⟩) HLT.out.2.2).trans HS0.out.2.2⟩; clear hb4 HKN))
  go_wp2_with fail
  go_ret
  exact ⟨rfl, below_seq HW.out HB4.out HW.out.size⟩

def oddU4 : List Ln.Lx.Tk := (Ln.Lx.toks [102, 40, 41, 32, 61, 32, 50, 59]).1
set_option maxRecDepth 40000 in
theorem oddT4 : Ln.Lx.toks [102, 40, 41, 32, 61, 32, 50, 59] = (oddU4, 0, 0) := by kernel_rfl
theorem oddN4 : oddU4.length = 7 := by kernel_rfl
set_option maxRecDepth 40000 in
theorem oddP4 : oddly oddU4 7 = some (0, 0, 2, 4) := by kernel_rfl
theorem oddS4 : ∀ t ∈ oddU4, t.text.length ≤ 281474976710656 := by
  have h : (oddU4.all fun t => decide (t.text.length ≤ 281474976710656)) = true := by kernel_rfl
  exact fun t ht => of_decide_eq_true (List.all_eq_true.1 h t ht)

set_option maxRecDepth 40000 in
set_option maxHeartbeats 8000000 in
theorem odd4_4 (w : World) (hops : OpsIn w) :
    Calls Tryd.prog 4 #[.int .i64 4] w fun e w' => e = .returned (.bool true) ∧ Below w.heap.size w w' := by
  obtain ⟨m, hm, hmk⟩ := oddly_out oddP4
  have HM := Lib.hid hm
  have HMK := Lib.hid hmk
  have HOP := Lib.hid hops
  obtain ⟨w0, hw0⟩ : ∃ w0, w0 = ((w.alloc (.cells #[.string ⟨#[120, 59]⟩, .string ⟨#[120, 32, 43, 32, 49, 59]⟩, .string ⟨#[120, 46, 102, 32, 61, 32, 50, 59]⟩, .string ⟨#[120, 91, 49, 93, 32, 61, 32, 50, 59]⟩, .string ⟨#[102, 40, 41, 32, 61, 32, 50, 59]⟩, .string ⟨#[49, 32, 61, 32, 50, 59]⟩, .string ⟨#[102, 40, 49, 41, 59]⟩, .string ⟨#[40, 120, 41, 32, 61, 32, 49, 59]⟩, .string ⟨#[45, 120, 32, 61, 32, 49, 59]⟩, .string ⟨#[114, 101, 116, 117, 114, 110]⟩, .string ⟨#[114, 101, 116, 117, 114, 110, 59]⟩, .string ⟨#[114, 101, 116, 117, 114, 110, 32, 49, 59]⟩, .string ⟨#[108, 101, 116, 32, 120, 32, 61, 32, 49, 59]⟩, .string ⟨#[118, 97, 114, 32, 120, 58, 32, 91, 91, 105, 110, 116, 93, 93, 59]⟩, .string ⟨#[118, 97, 114, 32, 120, 58, 32, 91, 91, 91, 91, 105, 110, 116, 93, 93, 93, 93, 59]⟩, .string ⟨#[105, 102, 32, 98, 32, 123, 32, 125, 32, 101, 108, 115, 101, 32, 102, 40, 41, 59]⟩, .string ⟨#[112, 114, 105, 110, 116, 59]⟩, .string ⟨#[119, 104, 105, 108, 101, 32, 123, 32, 125]⟩, .string ⟨#[120, 32, 61, 32, 59]⟩, .string ⟨#[102, 40, 41, 46, 103, 32, 61, 32, 49, 59]⟩] 9)).alloc (.cells #[.int .i64 0, .int .i64 0, .int .i64 4, .int .i64 4, .int .i64 0, .int .i64 0, .int .i64 9, .int .i64 3, .int .i64 0, .int .i64 0, .int .i64 7, .int .i64 7, .int .i64 0, .int .i64 1, .int .i64 0, .int .i64 0, .int .i64 0, .int .i64 0, .int .i64 0, .int .i64 4] 3)).alloc (.cells #[.int .i64 1, .int .i64 5, .int .i64 0, .int .i64 0, .int .i64 4, .int .i64 2, .int .i64 0, .int .i64 0, .int .i64 3, .int .i64 6, .int .i64 0, .int .i64 0, .int .i64 6, .int .i64 0, .int .i64 10, .int .i64 14, .int .i64 5, .int .i64 6, .int .i64 4, .int .i64 0] 3) := ⟨_, rfl⟩
  have hb0 : Below w.heap.size w w0 := by rw [hw0]; exact (((Below.refl _ _).alloc (Nat.le_refl _) _).alloc (by simp only [size_alloc]; omega) _).alloc (by simp only [size_alloc]; omega) _
  have hkK : w0.heap[w.heap.size + 1]? = some (.cells #[.int .i64 0, .int .i64 0, .int .i64 4, .int .i64 4, .int .i64 0, .int .i64 0, .int .i64 9, .int .i64 3, .int .i64 0, .int .i64 0, .int .i64 7, .int .i64 7, .int .i64 0, .int .i64 1, .int .i64 0, .int .i64 0, .int .i64 0, .int .i64 0, .int .i64 0, .int .i64 4] 3 (0, 0)) := by rw [hw0]; have := heap_alloc_new (w.alloc (.cells #[.string ⟨#[120, 59]⟩, .string ⟨#[120, 32, 43, 32, 49, 59]⟩, .string ⟨#[120, 46, 102, 32, 61, 32, 50, 59]⟩, .string ⟨#[120, 91, 49, 93, 32, 61, 32, 50, 59]⟩, .string ⟨#[102, 40, 41, 32, 61, 32, 50, 59]⟩, .string ⟨#[49, 32, 61, 32, 50, 59]⟩, .string ⟨#[102, 40, 49, 41, 59]⟩, .string ⟨#[40, 120, 41, 32, 61, 32, 49, 59]⟩, .string ⟨#[45, 120, 32, 61, 32, 49, 59]⟩, .string ⟨#[114, 101, 116, 117, 114, 110]⟩, .string ⟨#[114, 101, 116, 117, 114, 110, 59]⟩, .string ⟨#[114, 101, 116, 117, 114, 110, 32, 49, 59]⟩, .string ⟨#[108, 101, 116, 32, 120, 32, 61, 32, 49, 59]⟩, .string ⟨#[118, 97, 114, 32, 120, 58, 32, 91, 91, 105, 110, 116, 93, 93, 59]⟩, .string ⟨#[118, 97, 114, 32, 120, 58, 32, 91, 91, 91, 91, 105, 110, 116, 93, 93, 93, 93, 59]⟩, .string ⟨#[105, 102, 32, 98, 32, 123, 32, 125, 32, 101, 108, 115, 101, 32, 102, 40, 41, 59]⟩, .string ⟨#[112, 114, 105, 110, 116, 59]⟩, .string ⟨#[119, 104, 105, 108, 101, 32, 123, 32, 125]⟩, .string ⟨#[120, 32, 61, 32, 59]⟩, .string ⟨#[102, 40, 41, 46, 103, 32, 61, 32, 49, 59]⟩] 9)) (.cells #[.int .i64 0, .int .i64 0, .int .i64 4, .int .i64 4, .int .i64 0, .int .i64 0, .int .i64 9, .int .i64 3, .int .i64 0, .int .i64 0, .int .i64 7, .int .i64 7, .int .i64 0, .int .i64 1, .int .i64 0, .int .i64 0, .int .i64 0, .int .i64 0, .int .i64 0, .int .i64 4] 3); rw [size_alloc] at this; exact alloc_box _ this
  have hkA : w0.heap[w.heap.size + 1 + 1]? = some (.cells #[.int .i64 1, .int .i64 5, .int .i64 0, .int .i64 0, .int .i64 4, .int .i64 2, .int .i64 0, .int .i64 0, .int .i64 3, .int .i64 6, .int .i64 0, .int .i64 0, .int .i64 6, .int .i64 0, .int .i64 10, .int .i64 14, .int .i64 5, .int .i64 6, .int .i64 4, .int .i64 0] 3 (0, 0)) := by rw [hw0]; have := heap_alloc_new ((w.alloc (.cells #[.string ⟨#[120, 59]⟩, .string ⟨#[120, 32, 43, 32, 49, 59]⟩, .string ⟨#[120, 46, 102, 32, 61, 32, 50, 59]⟩, .string ⟨#[120, 91, 49, 93, 32, 61, 32, 50, 59]⟩, .string ⟨#[102, 40, 41, 32, 61, 32, 50, 59]⟩, .string ⟨#[49, 32, 61, 32, 50, 59]⟩, .string ⟨#[102, 40, 49, 41, 59]⟩, .string ⟨#[40, 120, 41, 32, 61, 32, 49, 59]⟩, .string ⟨#[45, 120, 32, 61, 32, 49, 59]⟩, .string ⟨#[114, 101, 116, 117, 114, 110]⟩, .string ⟨#[114, 101, 116, 117, 114, 110, 59]⟩, .string ⟨#[114, 101, 116, 117, 114, 110, 32, 49, 59]⟩, .string ⟨#[108, 101, 116, 32, 120, 32, 61, 32, 49, 59]⟩, .string ⟨#[118, 97, 114, 32, 120, 58, 32, 91, 91, 105, 110, 116, 93, 93, 59]⟩, .string ⟨#[118, 97, 114, 32, 120, 58, 32, 91, 91, 91, 91, 105, 110, 116, 93, 93, 93, 93, 59]⟩, .string ⟨#[105, 102, 32, 98, 32, 123, 32, 125, 32, 101, 108, 115, 101, 32, 102, 40, 41, 59]⟩, .string ⟨#[112, 114, 105, 110, 116, 59]⟩, .string ⟨#[119, 104, 105, 108, 101, 32, 123, 32, 125]⟩, .string ⟨#[120, 32, 61, 32, 59]⟩, .string ⟨#[102, 40, 41, 46, 103, 32, 61, 32, 49, 59]⟩] 9)).alloc (.cells #[.int .i64 0, .int .i64 0, .int .i64 4, .int .i64 4, .int .i64 0, .int .i64 0, .int .i64 9, .int .i64 3, .int .i64 0, .int .i64 0, .int .i64 7, .int .i64 7, .int .i64 0, .int .i64 1, .int .i64 0, .int .i64 0, .int .i64 0, .int .i64 0, .int .i64 0, .int .i64 4] 3)) (.cells #[.int .i64 1, .int .i64 5, .int .i64 0, .int .i64 0, .int .i64 4, .int .i64 2, .int .i64 0, .int .i64 0, .int .i64 3, .int .i64 6, .int .i64 0, .int .i64 0, .int .i64 6, .int .i64 0, .int .i64 10, .int .i64 14, .int .i64 5, .int .i64 6, .int .i64 4, .int .i64 0] 3); simp only [size_alloc] at this; exact this
  have HKK := Lib.hid hkK
  have HKA := Lib.hid hkA
  have HB0 := Lib.hid hb0
  clear hm hmk hops hkK hkA hb0
  go_enter Tryd.func4, Tryd.ntmps4
  go_wp2_with fail
  rw [← hw0]
  clear hw0
  have htk := tokens_are ⟨#[102, 40, 41, 32, 61, 32, 50, 59]⟩ (by decide) oddU4 0 0 oddT4 w0
  rw [oddN4] at htk
  refine (htk).mono ?_
  clear htk
  rintro e w1 ⟨A, cA, rfl, hl1, hb1⟩
  have hbf : Below w1.heap.size w1 (w1.alloc (.cells #[.int .i64 0, .int .i64 0] 25)) := (Below.refl _ _).alloc (Nat.le_refl _) _
  have ht := (toks_of (c := cA) hl1 oddS4).below hbf
  rw [oddN4] at ht
  have HT := Lib.hid ht
  have hb01 := below_seq hb1 hbf hb1.size
  have HB1 := Lib.hid (below_seq HB0.out hb01 HB0.out.size)
  have HKK1 := Lib.hid ((hb01.block _ (heap_lt' HKK.out)).trans HKK.out)
  have HKA1 := Lib.hid ((hb01.block _ (heap_lt' HKA.out)).trans HKA.out)
  clear ht hl1 hb1 hbf hb01 HKK HKA
  go_wp2_with fail
  have hlen : (oddU4.map toRT).length ≤ 90000000 := by rw [List.length_map, oddN4]; decide
  refine (stParse_any _ _ _ (oddU4.map toRT) (pxBy oddU4 (10 * 7 + 20)) (pok_of hlen (pxBy_is oddN4 (by decide))) 0 0 HT.out (by obtain ⟨gt, gfr, hg⟩ := HOP.out; exact ⟨gt, gfr, (HB1.out.block _ (heap_lt' hg)).trans hg⟩) (10 * 7 + 20) (by decide) _ HM.out).mono ?_
  rintro e w3 ⟨sk, sn, so, sd, sep, sel, sec, sbp, sbl, sbc, slp, sll, slc, sa, sr, rfl, hs, hb3⟩
  have hsk := hs.kindM
  clear hsk
  have hKr := (hb3.block _ (heap_lt' HKK1.out)).trans HKK1.out
  have hK : w3.cell? ⟨w.heap.size + 1, 4, none⟩ = some (.int .i64 0) := by rw [cell_of_row _ _ _ _ _ _ hKr]; rfl
  have hKl := heap_lt' hKr
  have hAr := (hb3.block _ (heap_lt' HKA1.out)).trans HKA1.out
  have HA := Lib.hid hAr
  have HK := Lib.hid hK
  have HL3 := Lib.hid (heap_lt' hAr)
  have HB3 := Lib.hid (below_seq HB1.out hb3 HB1.out.size)
  clear hs hb3 hKr hAr HT HKK1 HKA1 hlen
  dsimp only
  have hKw : ((w3.alloc (.cells #[.int .i64 sk, .string (cbs sn), .string (cbs so), .int .i64 sd, .slice sep sel sec, .slice sbp sbl sbc, .slice slp sll slc, .int .i64 sa, .int .i64 sr] 33)).alloc (.cells #[.int .i64 2, .int .i64 4] 25)).cell? ⟨w.heap.size + 1, 4, none⟩ = some (.int .i64 0) :=
    ((((Below.refl _ _).alloc (Nat.le_refl _) _).alloc (by rw [size_alloc]; omega) _ : Below w3.heap.size w3 ((w3.alloc (.cells #[.int .i64 sk, .string (cbs sn), .string (cbs so), .int .i64 sd, .slice sep sel sec, .slice sbp sbl sbc, .slice slp sll slc, .int .i64 sa, .int .i64 sr] 33)).alloc (.cells #[.int .i64 2, .int .i64 4] 25))).cell (p := ⟨w.heap.size + 1, 4, none⟩) hKl).trans hK
  go_wp2_with fail
  clear hK hKw
  obtain ⟨wc, hwc⟩ : ∃ wc, wc = (w3.alloc (.cells #[.int .i64 sk, .string (cbs sn), .string (cbs so), .int .i64 sd, .slice sep sel sec, .slice sbp sbl sbc, .slice slp sll slc, .int .i64 sa, .int .i64 sr] 33)).alloc (.cells #[.int .i64 2, .int .i64 4] 25) := ⟨_, rfl⟩
  try rw [← hwc]
  have hb5 : Below w3.heap.size w3 wc := by rw [hwc]; exact ((Below.refl _ _).alloc (Nat.le_refl _) _).alloc (by rw [size_alloc]; omega) _
  have hS : wc.heap[w3.heap.size]? = some (.cells #[.int .i64 sk, .string (cbs sn), .string (cbs so), .int .i64 sd, .slice sep sel sec, .slice sbp sbl sbc, .slice slp sll slc, .int .i64 sa, .int .i64 sr] 33 (0, 0)) := by rw [hwc]; exact alloc_box _ (heap_alloc_new w3 _)
  have hG : wc.heap[w3.heap.size + 1]? = some (.cells #[.int .i64 2, .int .i64 4] 25 (0, 0)) := by rw [hwc]; have := heap_alloc_new (w3.alloc (.cells #[.int .i64 sk, .string (cbs sn), .string (cbs so), .int .i64 sd, .slice sep sel sec, .slice sbp sbl sbc, .slice slp sll slc, .int .i64 sa, .int .i64 sr] 33)) (.cells #[.int .i64 2, .int .i64 4] 25); rw [size_alloc] at this; exact this
  clear hwc
  have hK := (hb5.cell (p := ⟨w.heap.size + 1, 4, none⟩) hKl).trans HK.out
  have hA : wc.cell? ⟨w.heap.size + 1 + 1, 4, none⟩ = some (.int .i64 4) := by rw [cell_of_row _ _ _ _ _ _ ((hb5.block _ HL3.out).trans HA.out)]; rfl
  have HS0 : Hid (wc.cell? ⟨w3.heap.size + 1, 0, none⟩ = some (.int .i64 2) ∧ wc.cell? ⟨w3.heap.size + 1, 1, none⟩ = some (.int .i64 4) ∧ wc.cell? ⟨w.heap.size + 1 + 1, 4, none⟩ = some (.int .i64 4)) := Lib.hid ⟨(duo hG).1.1, (duo hG).1.2, hA⟩
  have HLT := Lib.hid (show w3.heap.size + 1 < wc.heap.size ∧ w3.heap.size + 1 < wc.heap.size ∧ w.heap.size + 1 + 1 < wc.heap.size from ⟨heap_lt' hG, heap_lt' hG, by have := HL3.out; have := hb5.size; omega⟩)
  have HW := Lib.hid (below_seq HB3.out hb5 HB3.out.size)
  clear hb5 hS hG hK hA hKl HK HA HB3 HB1 HB0
  have HKN := Lib.hid (known4_any wc.drew (by obtain ⟨gt, gfr, hg⟩ := HOP.out; exact ⟨gt, gfr, (HW.out.block _ (heap_lt' hg)).trans hg⟩))
  obtain ⟨e0, e1, e2⟩ := HS0.out
  have hq := eq_f2 2 4 2 4
  go_region_held3 (fun w' => w'.cell? ⟨w3.heap.size + 1, 0, none⟩ = some (.int .i64 2) ∧ w'.cell? ⟨w3.heap.size + 1, 1, none⟩ = some (.int .i64 4) ∧ w'.cell? ⟨w.heap.size + 1 + 1, 4, none⟩ = some (.int .i64 4)) (first | exact HS0.out | exact HS4.out) (first
    | (go_at_call 8; (with_reducible refine Calls.mono HKN.out ?_); rintro e w4 ⟨rfl, hb4⟩; have HB4 := Lib.hid (below_seq ((Below.refl wc.heap.size wc).drew) hb4 (Nat.le_refl _)); have HS4 : Hid (w4.cell? ⟨w3.heap.size + 1, 0, none⟩ = some (.int .i64 2) ∧ w4.cell? ⟨w3.heap.size + 1, 1, none⟩ = some (.int .i64 4) ∧ w4.cell? ⟨w.heap.size + 1 + 1, 4, none⟩ = some (.int .i64 4)) := Lib.hid ⟨(HB4.out.cell (p := ⟨w3.heap.size + 1, 0, none⟩) HLT.out.1).trans HS0.out.1, (HB4.out.cell (p := ⟨w3.heap.size + 1, 1, none⟩) HLT.out.2.1).trans HS0.out.2.1, (HB4.out.cell (p := ⟨w.heap.size + 1 + 1, 4, none⟩) HLT.out.2.2).trans HS0.out.2.2⟩; clear hb4 HKN))
  go_wp2_with fail
  go_ret
  exact ⟨rfl, below_seq HW.out HB4.out HW.out.size⟩

def oddU5 : List Ln.Lx.Tk := (Ln.Lx.toks [49, 32, 61, 32, 50, 59]).1
set_option maxRecDepth 40000 in
theorem oddT5 : Ln.Lx.toks [49, 32, 61, 32, 50, 59] = (oddU5, 0, 0) := by kernel_rfl
theorem oddN5 : oddU5.length = 5 := by kernel_rfl
set_option maxRecDepth 40000 in
theorem oddP5 : oddly oddU5 5 = some (0, 0, 2, 2) := by kernel_rfl
theorem oddS5 : ∀ t ∈ oddU5, t.text.length ≤ 281474976710656 := by
  have h : (oddU5.all fun t => decide (t.text.length ≤ 281474976710656)) = true := by kernel_rfl
  exact fun t ht => of_decide_eq_true (List.all_eq_true.1 h t ht)

set_option maxRecDepth 40000 in
set_option maxHeartbeats 8000000 in
theorem odd4_5 (w : World) (hops : OpsIn w) :
    Calls Tryd.prog 4 #[.int .i64 5] w fun e w' => e = .returned (.bool true) ∧ Below w.heap.size w w' := by
  obtain ⟨m, hm, hmk⟩ := oddly_out oddP5
  have HM := Lib.hid hm
  have HMK := Lib.hid hmk
  have HOP := Lib.hid hops
  obtain ⟨w0, hw0⟩ : ∃ w0, w0 = ((w.alloc (.cells #[.string ⟨#[120, 59]⟩, .string ⟨#[120, 32, 43, 32, 49, 59]⟩, .string ⟨#[120, 46, 102, 32, 61, 32, 50, 59]⟩, .string ⟨#[120, 91, 49, 93, 32, 61, 32, 50, 59]⟩, .string ⟨#[102, 40, 41, 32, 61, 32, 50, 59]⟩, .string ⟨#[49, 32, 61, 32, 50, 59]⟩, .string ⟨#[102, 40, 49, 41, 59]⟩, .string ⟨#[40, 120, 41, 32, 61, 32, 49, 59]⟩, .string ⟨#[45, 120, 32, 61, 32, 49, 59]⟩, .string ⟨#[114, 101, 116, 117, 114, 110]⟩, .string ⟨#[114, 101, 116, 117, 114, 110, 59]⟩, .string ⟨#[114, 101, 116, 117, 114, 110, 32, 49, 59]⟩, .string ⟨#[108, 101, 116, 32, 120, 32, 61, 32, 49, 59]⟩, .string ⟨#[118, 97, 114, 32, 120, 58, 32, 91, 91, 105, 110, 116, 93, 93, 59]⟩, .string ⟨#[118, 97, 114, 32, 120, 58, 32, 91, 91, 91, 91, 105, 110, 116, 93, 93, 93, 93, 59]⟩, .string ⟨#[105, 102, 32, 98, 32, 123, 32, 125, 32, 101, 108, 115, 101, 32, 102, 40, 41, 59]⟩, .string ⟨#[112, 114, 105, 110, 116, 59]⟩, .string ⟨#[119, 104, 105, 108, 101, 32, 123, 32, 125]⟩, .string ⟨#[120, 32, 61, 32, 59]⟩, .string ⟨#[102, 40, 41, 46, 103, 32, 61, 32, 49, 59]⟩] 9)).alloc (.cells #[.int .i64 0, .int .i64 0, .int .i64 4, .int .i64 4, .int .i64 0, .int .i64 0, .int .i64 9, .int .i64 3, .int .i64 0, .int .i64 0, .int .i64 7, .int .i64 7, .int .i64 0, .int .i64 1, .int .i64 0, .int .i64 0, .int .i64 0, .int .i64 0, .int .i64 0, .int .i64 4] 3)).alloc (.cells #[.int .i64 1, .int .i64 5, .int .i64 0, .int .i64 0, .int .i64 4, .int .i64 2, .int .i64 0, .int .i64 0, .int .i64 3, .int .i64 6, .int .i64 0, .int .i64 0, .int .i64 6, .int .i64 0, .int .i64 10, .int .i64 14, .int .i64 5, .int .i64 6, .int .i64 4, .int .i64 0] 3) := ⟨_, rfl⟩
  have hb0 : Below w.heap.size w w0 := by rw [hw0]; exact (((Below.refl _ _).alloc (Nat.le_refl _) _).alloc (by simp only [size_alloc]; omega) _).alloc (by simp only [size_alloc]; omega) _
  have hkK : w0.heap[w.heap.size + 1]? = some (.cells #[.int .i64 0, .int .i64 0, .int .i64 4, .int .i64 4, .int .i64 0, .int .i64 0, .int .i64 9, .int .i64 3, .int .i64 0, .int .i64 0, .int .i64 7, .int .i64 7, .int .i64 0, .int .i64 1, .int .i64 0, .int .i64 0, .int .i64 0, .int .i64 0, .int .i64 0, .int .i64 4] 3 (0, 0)) := by rw [hw0]; have := heap_alloc_new (w.alloc (.cells #[.string ⟨#[120, 59]⟩, .string ⟨#[120, 32, 43, 32, 49, 59]⟩, .string ⟨#[120, 46, 102, 32, 61, 32, 50, 59]⟩, .string ⟨#[120, 91, 49, 93, 32, 61, 32, 50, 59]⟩, .string ⟨#[102, 40, 41, 32, 61, 32, 50, 59]⟩, .string ⟨#[49, 32, 61, 32, 50, 59]⟩, .string ⟨#[102, 40, 49, 41, 59]⟩, .string ⟨#[40, 120, 41, 32, 61, 32, 49, 59]⟩, .string ⟨#[45, 120, 32, 61, 32, 49, 59]⟩, .string ⟨#[114, 101, 116, 117, 114, 110]⟩, .string ⟨#[114, 101, 116, 117, 114, 110, 59]⟩, .string ⟨#[114, 101, 116, 117, 114, 110, 32, 49, 59]⟩, .string ⟨#[108, 101, 116, 32, 120, 32, 61, 32, 49, 59]⟩, .string ⟨#[118, 97, 114, 32, 120, 58, 32, 91, 91, 105, 110, 116, 93, 93, 59]⟩, .string ⟨#[118, 97, 114, 32, 120, 58, 32, 91, 91, 91, 91, 105, 110, 116, 93, 93, 93, 93, 59]⟩, .string ⟨#[105, 102, 32, 98, 32, 123, 32, 125, 32, 101, 108, 115, 101, 32, 102, 40, 41, 59]⟩, .string ⟨#[112, 114, 105, 110, 116, 59]⟩, .string ⟨#[119, 104, 105, 108, 101, 32, 123, 32, 125]⟩, .string ⟨#[120, 32, 61, 32, 59]⟩, .string ⟨#[102, 40, 41, 46, 103, 32, 61, 32, 49, 59]⟩] 9)) (.cells #[.int .i64 0, .int .i64 0, .int .i64 4, .int .i64 4, .int .i64 0, .int .i64 0, .int .i64 9, .int .i64 3, .int .i64 0, .int .i64 0, .int .i64 7, .int .i64 7, .int .i64 0, .int .i64 1, .int .i64 0, .int .i64 0, .int .i64 0, .int .i64 0, .int .i64 0, .int .i64 4] 3); rw [size_alloc] at this; exact alloc_box _ this
  have hkA : w0.heap[w.heap.size + 1 + 1]? = some (.cells #[.int .i64 1, .int .i64 5, .int .i64 0, .int .i64 0, .int .i64 4, .int .i64 2, .int .i64 0, .int .i64 0, .int .i64 3, .int .i64 6, .int .i64 0, .int .i64 0, .int .i64 6, .int .i64 0, .int .i64 10, .int .i64 14, .int .i64 5, .int .i64 6, .int .i64 4, .int .i64 0] 3 (0, 0)) := by rw [hw0]; have := heap_alloc_new ((w.alloc (.cells #[.string ⟨#[120, 59]⟩, .string ⟨#[120, 32, 43, 32, 49, 59]⟩, .string ⟨#[120, 46, 102, 32, 61, 32, 50, 59]⟩, .string ⟨#[120, 91, 49, 93, 32, 61, 32, 50, 59]⟩, .string ⟨#[102, 40, 41, 32, 61, 32, 50, 59]⟩, .string ⟨#[49, 32, 61, 32, 50, 59]⟩, .string ⟨#[102, 40, 49, 41, 59]⟩, .string ⟨#[40, 120, 41, 32, 61, 32, 49, 59]⟩, .string ⟨#[45, 120, 32, 61, 32, 49, 59]⟩, .string ⟨#[114, 101, 116, 117, 114, 110]⟩, .string ⟨#[114, 101, 116, 117, 114, 110, 59]⟩, .string ⟨#[114, 101, 116, 117, 114, 110, 32, 49, 59]⟩, .string ⟨#[108, 101, 116, 32, 120, 32, 61, 32, 49, 59]⟩, .string ⟨#[118, 97, 114, 32, 120, 58, 32, 91, 91, 105, 110, 116, 93, 93, 59]⟩, .string ⟨#[118, 97, 114, 32, 120, 58, 32, 91, 91, 91, 91, 105, 110, 116, 93, 93, 93, 93, 59]⟩, .string ⟨#[105, 102, 32, 98, 32, 123, 32, 125, 32, 101, 108, 115, 101, 32, 102, 40, 41, 59]⟩, .string ⟨#[112, 114, 105, 110, 116, 59]⟩, .string ⟨#[119, 104, 105, 108, 101, 32, 123, 32, 125]⟩, .string ⟨#[120, 32, 61, 32, 59]⟩, .string ⟨#[102, 40, 41, 46, 103, 32, 61, 32, 49, 59]⟩] 9)).alloc (.cells #[.int .i64 0, .int .i64 0, .int .i64 4, .int .i64 4, .int .i64 0, .int .i64 0, .int .i64 9, .int .i64 3, .int .i64 0, .int .i64 0, .int .i64 7, .int .i64 7, .int .i64 0, .int .i64 1, .int .i64 0, .int .i64 0, .int .i64 0, .int .i64 0, .int .i64 0, .int .i64 4] 3)) (.cells #[.int .i64 1, .int .i64 5, .int .i64 0, .int .i64 0, .int .i64 4, .int .i64 2, .int .i64 0, .int .i64 0, .int .i64 3, .int .i64 6, .int .i64 0, .int .i64 0, .int .i64 6, .int .i64 0, .int .i64 10, .int .i64 14, .int .i64 5, .int .i64 6, .int .i64 4, .int .i64 0] 3); simp only [size_alloc] at this; exact this
  have HKK := Lib.hid hkK
  have HKA := Lib.hid hkA
  have HB0 := Lib.hid hb0
  clear hm hmk hops hkK hkA hb0
  go_enter Tryd.func4, Tryd.ntmps4
  go_wp2_with fail
  rw [← hw0]
  clear hw0
  have htk := tokens_are ⟨#[49, 32, 61, 32, 50, 59]⟩ (by decide) oddU5 0 0 oddT5 w0
  rw [oddN5] at htk
  refine (htk).mono ?_
  clear htk
  rintro e w1 ⟨A, cA, rfl, hl1, hb1⟩
  have hbf : Below w1.heap.size w1 (w1.alloc (.cells #[.int .i64 0, .int .i64 0] 25)) := (Below.refl _ _).alloc (Nat.le_refl _) _
  have ht := (toks_of (c := cA) hl1 oddS5).below hbf
  rw [oddN5] at ht
  have HT := Lib.hid ht
  have hb01 := below_seq hb1 hbf hb1.size
  have HB1 := Lib.hid (below_seq HB0.out hb01 HB0.out.size)
  have HKK1 := Lib.hid ((hb01.block _ (heap_lt' HKK.out)).trans HKK.out)
  have HKA1 := Lib.hid ((hb01.block _ (heap_lt' HKA.out)).trans HKA.out)
  clear ht hl1 hb1 hbf hb01 HKK HKA
  go_wp2_with fail
  have hlen : (oddU5.map toRT).length ≤ 90000000 := by rw [List.length_map, oddN5]; decide
  refine (stParse_any _ _ _ (oddU5.map toRT) (pxBy oddU5 (10 * 5 + 20)) (pok_of hlen (pxBy_is oddN5 (by decide))) 0 0 HT.out (by obtain ⟨gt, gfr, hg⟩ := HOP.out; exact ⟨gt, gfr, (HB1.out.block _ (heap_lt' hg)).trans hg⟩) (10 * 5 + 20) (by decide) _ HM.out).mono ?_
  rintro e w3 ⟨sk, sn, so, sd, sep, sel, sec, sbp, sbl, sbc, slp, sll, slc, sa, sr, rfl, hs, hb3⟩
  have hsk := hs.kindM
  clear hsk
  have hKr := (hb3.block _ (heap_lt' HKK1.out)).trans HKK1.out
  have hK : w3.cell? ⟨w.heap.size + 1, 5, none⟩ = some (.int .i64 0) := by rw [cell_of_row _ _ _ _ _ _ hKr]; rfl
  have hKl := heap_lt' hKr
  have hAr := (hb3.block _ (heap_lt' HKA1.out)).trans HKA1.out
  have HA := Lib.hid hAr
  have HK := Lib.hid hK
  have HL3 := Lib.hid (heap_lt' hAr)
  have HB3 := Lib.hid (below_seq HB1.out hb3 HB1.out.size)
  clear hs hb3 hKr hAr HT HKK1 HKA1 hlen
  dsimp only
  have hKw : ((w3.alloc (.cells #[.int .i64 sk, .string (cbs sn), .string (cbs so), .int .i64 sd, .slice sep sel sec, .slice sbp sbl sbc, .slice slp sll slc, .int .i64 sa, .int .i64 sr] 33)).alloc (.cells #[.int .i64 2, .int .i64 2] 25)).cell? ⟨w.heap.size + 1, 5, none⟩ = some (.int .i64 0) :=
    ((((Below.refl _ _).alloc (Nat.le_refl _) _).alloc (by rw [size_alloc]; omega) _ : Below w3.heap.size w3 ((w3.alloc (.cells #[.int .i64 sk, .string (cbs sn), .string (cbs so), .int .i64 sd, .slice sep sel sec, .slice sbp sbl sbc, .slice slp sll slc, .int .i64 sa, .int .i64 sr] 33)).alloc (.cells #[.int .i64 2, .int .i64 2] 25))).cell (p := ⟨w.heap.size + 1, 5, none⟩) hKl).trans hK
  go_wp2_with fail
  clear hK hKw
  obtain ⟨wc, hwc⟩ : ∃ wc, wc = (w3.alloc (.cells #[.int .i64 sk, .string (cbs sn), .string (cbs so), .int .i64 sd, .slice sep sel sec, .slice sbp sbl sbc, .slice slp sll slc, .int .i64 sa, .int .i64 sr] 33)).alloc (.cells #[.int .i64 2, .int .i64 2] 25) := ⟨_, rfl⟩
  try rw [← hwc]
  have hb5 : Below w3.heap.size w3 wc := by rw [hwc]; exact ((Below.refl _ _).alloc (Nat.le_refl _) _).alloc (by rw [size_alloc]; omega) _
  have hS : wc.heap[w3.heap.size]? = some (.cells #[.int .i64 sk, .string (cbs sn), .string (cbs so), .int .i64 sd, .slice sep sel sec, .slice sbp sbl sbc, .slice slp sll slc, .int .i64 sa, .int .i64 sr] 33 (0, 0)) := by rw [hwc]; exact alloc_box _ (heap_alloc_new w3 _)
  have hG : wc.heap[w3.heap.size + 1]? = some (.cells #[.int .i64 2, .int .i64 2] 25 (0, 0)) := by rw [hwc]; have := heap_alloc_new (w3.alloc (.cells #[.int .i64 sk, .string (cbs sn), .string (cbs so), .int .i64 sd, .slice sep sel sec, .slice sbp sbl sbc, .slice slp sll slc, .int .i64 sa, .int .i64 sr] 33)) (.cells #[.int .i64 2, .int .i64 2] 25); rw [size_alloc] at this; exact this
  clear hwc
  have hK := (hb5.cell (p := ⟨w.heap.size + 1, 5, none⟩) hKl).trans HK.out
  have hA : wc.cell? ⟨w.heap.size + 1 + 1, 5, none⟩ = some (.int .i64 2) := by rw [cell_of_row _ _ _ _ _ _ ((hb5.block _ HL3.out).trans HA.out)]; rfl
  have HS0 : Hid (wc.cell? ⟨w3.heap.size + 1, 0, none⟩ = some (.int .i64 2) ∧ wc.cell? ⟨w3.heap.size + 1, 1, none⟩ = some (.int .i64 2) ∧ wc.cell? ⟨w.heap.size + 1 + 1, 5, none⟩ = some (.int .i64 2)) := Lib.hid ⟨(duo hG).1.1, (duo hG).1.2, hA⟩
  have HLT := Lib.hid (show w3.heap.size + 1 < wc.heap.size ∧ w3.heap.size + 1 < wc.heap.size ∧ w.heap.size + 1 + 1 < wc.heap.size from ⟨heap_lt' hG, heap_lt' hG, by have := HL3.out; have := hb5.size; omega⟩)
  have HW := Lib.hid (below_seq HB3.out hb5 HB3.out.size)
  clear hb5 hS hG hK hA hKl HK HA HB3 HB1 HB0
  have HKN := Lib.hid (known4_any wc.drew (by obtain ⟨gt, gfr, hg⟩ := HOP.out; exact ⟨gt, gfr, (HW.out.block _ (heap_lt' hg)).trans hg⟩))
  obtain ⟨e0, e1, e2⟩ := HS0.out
  have hq := eq_f2 2 2 2 2
  go_region_held3 (fun w' => w'.cell? ⟨w3.heap.size + 1, 0, none⟩ = some (.int .i64 2) ∧ w'.cell? ⟨w3.heap.size + 1, 1, none⟩ = some (.int .i64 2) ∧ w'.cell? ⟨w.heap.size + 1 + 1, 5, none⟩ = some (.int .i64 2)) (first | exact HS0.out | exact HS4.out) (first
    | (go_at_call 8; (with_reducible refine Calls.mono HKN.out ?_); rintro e w4 ⟨rfl, hb4⟩; have HB4 := Lib.hid (below_seq ((Below.refl wc.heap.size wc).drew) hb4 (Nat.le_refl _)); have HS4 : Hid (w4.cell? ⟨w3.heap.size + 1, 0, none⟩ = some (.int .i64 2) ∧ w4.cell? ⟨w3.heap.size + 1, 1, none⟩ = some (.int .i64 2) ∧ w4.cell? ⟨w.heap.size + 1 + 1, 5, none⟩ = some (.int .i64 2)) := Lib.hid ⟨(HB4.out.cell (p := ⟨w3.heap.size + 1, 0, none⟩) HLT.out.1).trans HS0.out.1, (HB4.out.cell (p := ⟨w3.heap.size + 1, 1, none⟩) HLT.out.2.1).trans HS0.out.2.1, (HB4.out.cell (p := ⟨w.heap.size + 1 + 1, 5, none⟩) HLT.out.2.2).trans HS0.out.2.2⟩; clear hb4 HKN))
  go_wp2_with fail
  go_ret
  exact ⟨rfl, below_seq HW.out HB4.out HW.out.size⟩

def oddU6 : List Ln.Lx.Tk := (Ln.Lx.toks [102, 40, 49, 41, 59]).1
set_option maxRecDepth 40000 in
theorem oddT6 : Ln.Lx.toks [102, 40, 49, 41, 59] = (oddU6, 0, 0) := by kernel_rfl
theorem oddN6 : oddU6.length = 6 := by kernel_rfl
set_option maxRecDepth 40000 in
theorem oddP6 : oddly oddU6 6 = some (9, 5, 0, 0) := by kernel_rfl
theorem oddS6 : ∀ t ∈ oddU6, t.text.length ≤ 281474976710656 := by
  have h : (oddU6.all fun t => decide (t.text.length ≤ 281474976710656)) = true := by kernel_rfl
  exact fun t ht => of_decide_eq_true (List.all_eq_true.1 h t ht)

set_option maxRecDepth 40000 in
set_option maxHeartbeats 8000000 in
theorem odd4_6 (w : World) (hops : OpsIn w) :
    Calls Tryd.prog 4 #[.int .i64 6] w fun e w' => e = .returned (.bool true) ∧ Below w.heap.size w w' := by
  obtain ⟨m, hm, hmk⟩ := oddly_out oddP6
  have HM := Lib.hid hm
  have HMK := Lib.hid hmk
  have HOP := Lib.hid hops
  obtain ⟨w0, hw0⟩ : ∃ w0, w0 = ((w.alloc (.cells #[.string ⟨#[120, 59]⟩, .string ⟨#[120, 32, 43, 32, 49, 59]⟩, .string ⟨#[120, 46, 102, 32, 61, 32, 50, 59]⟩, .string ⟨#[120, 91, 49, 93, 32, 61, 32, 50, 59]⟩, .string ⟨#[102, 40, 41, 32, 61, 32, 50, 59]⟩, .string ⟨#[49, 32, 61, 32, 50, 59]⟩, .string ⟨#[102, 40, 49, 41, 59]⟩, .string ⟨#[40, 120, 41, 32, 61, 32, 49, 59]⟩, .string ⟨#[45, 120, 32, 61, 32, 49, 59]⟩, .string ⟨#[114, 101, 116, 117, 114, 110]⟩, .string ⟨#[114, 101, 116, 117, 114, 110, 59]⟩, .string ⟨#[114, 101, 116, 117, 114, 110, 32, 49, 59]⟩, .string ⟨#[108, 101, 116, 32, 120, 32, 61, 32, 49, 59]⟩, .string ⟨#[118, 97, 114, 32, 120, 58, 32, 91, 91, 105, 110, 116, 93, 93, 59]⟩, .string ⟨#[118, 97, 114, 32, 120, 58, 32, 91, 91, 91, 91, 105, 110, 116, 93, 93, 93, 93, 59]⟩, .string ⟨#[105, 102, 32, 98, 32, 123, 32, 125, 32, 101, 108, 115, 101, 32, 102, 40, 41, 59]⟩, .string ⟨#[112, 114, 105, 110, 116, 59]⟩, .string ⟨#[119, 104, 105, 108, 101, 32, 123, 32, 125]⟩, .string ⟨#[120, 32, 61, 32, 59]⟩, .string ⟨#[102, 40, 41, 46, 103, 32, 61, 32, 49, 59]⟩] 9)).alloc (.cells #[.int .i64 0, .int .i64 0, .int .i64 4, .int .i64 4, .int .i64 0, .int .i64 0, .int .i64 9, .int .i64 3, .int .i64 0, .int .i64 0, .int .i64 7, .int .i64 7, .int .i64 0, .int .i64 1, .int .i64 0, .int .i64 0, .int .i64 0, .int .i64 0, .int .i64 0, .int .i64 4] 3)).alloc (.cells #[.int .i64 1, .int .i64 5, .int .i64 0, .int .i64 0, .int .i64 4, .int .i64 2, .int .i64 0, .int .i64 0, .int .i64 3, .int .i64 6, .int .i64 0, .int .i64 0, .int .i64 6, .int .i64 0, .int .i64 10, .int .i64 14, .int .i64 5, .int .i64 6, .int .i64 4, .int .i64 0] 3) := ⟨_, rfl⟩
  have hb0 : Below w.heap.size w w0 := by rw [hw0]; exact (((Below.refl _ _).alloc (Nat.le_refl _) _).alloc (by simp only [size_alloc]; omega) _).alloc (by simp only [size_alloc]; omega) _
  have hkK : w0.heap[w.heap.size + 1]? = some (.cells #[.int .i64 0, .int .i64 0, .int .i64 4, .int .i64 4, .int .i64 0, .int .i64 0, .int .i64 9, .int .i64 3, .int .i64 0, .int .i64 0, .int .i64 7, .int .i64 7, .int .i64 0, .int .i64 1, .int .i64 0, .int .i64 0, .int .i64 0, .int .i64 0, .int .i64 0, .int .i64 4] 3 (0, 0)) := by rw [hw0]; have := heap_alloc_new (w.alloc (.cells #[.string ⟨#[120, 59]⟩, .string ⟨#[120, 32, 43, 32, 49, 59]⟩, .string ⟨#[120, 46, 102, 32, 61, 32, 50, 59]⟩, .string ⟨#[120, 91, 49, 93, 32, 61, 32, 50, 59]⟩, .string ⟨#[102, 40, 41, 32, 61, 32, 50, 59]⟩, .string ⟨#[49, 32, 61, 32, 50, 59]⟩, .string ⟨#[102, 40, 49, 41, 59]⟩, .string ⟨#[40, 120, 41, 32, 61, 32, 49, 59]⟩, .string ⟨#[45, 120, 32, 61, 32, 49, 59]⟩, .string ⟨#[114, 101, 116, 117, 114, 110]⟩, .string ⟨#[114, 101, 116, 117, 114, 110, 59]⟩, .string ⟨#[114, 101, 116, 117, 114, 110, 32, 49, 59]⟩, .string ⟨#[108, 101, 116, 32, 120, 32, 61, 32, 49, 59]⟩, .string ⟨#[118, 97, 114, 32, 120, 58, 32, 91, 91, 105, 110, 116, 93, 93, 59]⟩, .string ⟨#[118, 97, 114, 32, 120, 58, 32, 91, 91, 91, 91, 105, 110, 116, 93, 93, 93, 93, 59]⟩, .string ⟨#[105, 102, 32, 98, 32, 123, 32, 125, 32, 101, 108, 115, 101, 32, 102, 40, 41, 59]⟩, .string ⟨#[112, 114, 105, 110, 116, 59]⟩, .string ⟨#[119, 104, 105, 108, 101, 32, 123, 32, 125]⟩, .string ⟨#[120, 32, 61, 32, 59]⟩, .string ⟨#[102, 40, 41, 46, 103, 32, 61, 32, 49, 59]⟩] 9)) (.cells #[.int .i64 0, .int .i64 0, .int .i64 4, .int .i64 4, .int .i64 0, .int .i64 0, .int .i64 9, .int .i64 3, .int .i64 0, .int .i64 0, .int .i64 7, .int .i64 7, .int .i64 0, .int .i64 1, .int .i64 0, .int .i64 0, .int .i64 0, .int .i64 0, .int .i64 0, .int .i64 4] 3); rw [size_alloc] at this; exact alloc_box _ this
  have hkA : w0.heap[w.heap.size + 1 + 1]? = some (.cells #[.int .i64 1, .int .i64 5, .int .i64 0, .int .i64 0, .int .i64 4, .int .i64 2, .int .i64 0, .int .i64 0, .int .i64 3, .int .i64 6, .int .i64 0, .int .i64 0, .int .i64 6, .int .i64 0, .int .i64 10, .int .i64 14, .int .i64 5, .int .i64 6, .int .i64 4, .int .i64 0] 3 (0, 0)) := by rw [hw0]; have := heap_alloc_new ((w.alloc (.cells #[.string ⟨#[120, 59]⟩, .string ⟨#[120, 32, 43, 32, 49, 59]⟩, .string ⟨#[120, 46, 102, 32, 61, 32, 50, 59]⟩, .string ⟨#[120, 91, 49, 93, 32, 61, 32, 50, 59]⟩, .string ⟨#[102, 40, 41, 32, 61, 32, 50, 59]⟩, .string ⟨#[49, 32, 61, 32, 50, 59]⟩, .string ⟨#[102, 40, 49, 41, 59]⟩, .string ⟨#[40, 120, 41, 32, 61, 32, 49, 59]⟩, .string ⟨#[45, 120, 32, 61, 32, 49, 59]⟩, .string ⟨#[114, 101, 116, 117, 114, 110]⟩, .string ⟨#[114, 101, 116, 117, 114, 110, 59]⟩, .string ⟨#[114, 101, 116, 117, 114, 110, 32, 49, 59]⟩, .string ⟨#[108, 101, 116, 32, 120, 32, 61, 32, 49, 59]⟩, .string ⟨#[118, 97, 114, 32, 120, 58, 32, 91, 91, 105, 110, 116, 93, 93, 59]⟩, .string ⟨#[118, 97, 114, 32, 120, 58, 32, 91, 91, 91, 91, 105, 110, 116, 93, 93, 93, 93, 59]⟩, .string ⟨#[105, 102, 32, 98, 32, 123, 32, 125, 32, 101, 108, 115, 101, 32, 102, 40, 41, 59]⟩, .string ⟨#[112, 114, 105, 110, 116, 59]⟩, .string ⟨#[119, 104, 105, 108, 101, 32, 123, 32, 125]⟩, .string ⟨#[120, 32, 61, 32, 59]⟩, .string ⟨#[102, 40, 41, 46, 103, 32, 61, 32, 49, 59]⟩] 9)).alloc (.cells #[.int .i64 0, .int .i64 0, .int .i64 4, .int .i64 4, .int .i64 0, .int .i64 0, .int .i64 9, .int .i64 3, .int .i64 0, .int .i64 0, .int .i64 7, .int .i64 7, .int .i64 0, .int .i64 1, .int .i64 0, .int .i64 0, .int .i64 0, .int .i64 0, .int .i64 0, .int .i64 4] 3)) (.cells #[.int .i64 1, .int .i64 5, .int .i64 0, .int .i64 0, .int .i64 4, .int .i64 2, .int .i64 0, .int .i64 0, .int .i64 3, .int .i64 6, .int .i64 0, .int .i64 0, .int .i64 6, .int .i64 0, .int .i64 10, .int .i64 14, .int .i64 5, .int .i64 6, .int .i64 4, .int .i64 0] 3); simp only [size_alloc] at this; exact this
  have HKK := Lib.hid hkK
  have HKA := Lib.hid hkA
  have HB0 := Lib.hid hb0
  clear hm hmk hops hkK hkA hb0
  go_enter Tryd.func4, Tryd.ntmps4
  go_wp2_with fail
  rw [← hw0]
  clear hw0
  have htk := tokens_are ⟨#[102, 40, 49, 41, 59]⟩ (by decide) oddU6 0 0 oddT6 w0
  rw [oddN6] at htk
  refine (htk).mono ?_
  clear htk
  rintro e w1 ⟨A, cA, rfl, hl1, hb1⟩
  have hbf : Below w1.heap.size w1 (w1.alloc (.cells #[.int .i64 0, .int .i64 0] 25)) := (Below.refl _ _).alloc (Nat.le_refl _) _
  have ht := (toks_of (c := cA) hl1 oddS6).below hbf
  rw [oddN6] at ht
  have HT := Lib.hid ht
  have hb01 := below_seq hb1 hbf hb1.size
  have HB1 := Lib.hid (below_seq HB0.out hb01 HB0.out.size)
  have HKK1 := Lib.hid ((hb01.block _ (heap_lt' HKK.out)).trans HKK.out)
  have HKA1 := Lib.hid ((hb01.block _ (heap_lt' HKA.out)).trans HKA.out)
  clear ht hl1 hb1 hbf hb01 HKK HKA
  go_wp2_with fail
  have hlen : (oddU6.map toRT).length ≤ 90000000 := by rw [List.length_map, oddN6]; decide
  refine (stParse_any _ _ _ (oddU6.map toRT) (pxBy oddU6 (10 * 6 + 20)) (pok_of hlen (pxBy_is oddN6 (by decide))) 0 0 HT.out (by obtain ⟨gt, gfr, hg⟩ := HOP.out; exact ⟨gt, gfr, (HB1.out.block _ (heap_lt' hg)).trans hg⟩) (10 * 6 + 20) (by decide) _ HM.out).mono ?_
  rintro e w3 ⟨sk, sn, so, sd, sep, sel, sec, sbp, sbl, sbc, slp, sll, slc, sa, sr, rfl, hs, hb3⟩
  have hsk := hs.kindM
  rw [HMK.out] at hsk
  subst hsk
  have hKr := (hb3.block _ (heap_lt' HKK1.out)).trans HKK1.out
  have hK : w3.cell? ⟨w.heap.size + 1, 6, none⟩ = some (.int .i64 9) := by rw [cell_of_row _ _ _ _ _ _ hKr]; rfl
  have hKl := heap_lt' hKr
  have hAr := (hb3.block _ (heap_lt' HKA1.out)).trans HKA1.out
  have HA := Lib.hid hAr
  have HK := Lib.hid hK
  have HL3 := Lib.hid (heap_lt' hAr)
  have HB3 := Lib.hid (below_seq HB1.out hb3 HB1.out.size)
  clear hs hb3 hKr hAr HT HKK1 HKA1 hlen
  dsimp only
  have hKw : ((w3.alloc (.cells #[.int .i64 9, .string (cbs sn), .string (cbs so), .int .i64 sd, .slice sep sel sec, .slice sbp sbl sbc, .slice slp sll slc, .int .i64 sa, .int .i64 sr] 33)).alloc (.cells #[.int .i64 0, .int .i64 0] 25)).cell? ⟨w.heap.size + 1, 6, none⟩ = some (.int .i64 9) :=
    ((((Below.refl _ _).alloc (Nat.le_refl _) _).alloc (by rw [size_alloc]; omega) _ : Below w3.heap.size w3 ((w3.alloc (.cells #[.int .i64 9, .string (cbs sn), .string (cbs so), .int .i64 sd, .slice sep sel sec, .slice sbp sbl sbc, .slice slp sll slc, .int .i64 sa, .int .i64 sr] 33)).alloc (.cells #[.int .i64 0, .int .i64 0] 25))).cell (p := ⟨w.heap.size + 1, 6, none⟩) hKl).trans hK
  go_wp2_with fail
  clear hK hKw
  obtain ⟨wc, hwc⟩ : ∃ wc, wc = (w3.alloc (.cells #[.int .i64 9, .string (cbs sn), .string (cbs so), .int .i64 sd, .slice sep sel sec, .slice sbp sbl sbc, .slice slp sll slc, .int .i64 sa, .int .i64 sr] 33)).alloc (.cells #[.int .i64 0, .int .i64 0] 25) := ⟨_, rfl⟩
  try rw [← hwc]
  have hb5 : Below w3.heap.size w3 wc := by rw [hwc]; exact ((Below.refl _ _).alloc (Nat.le_refl _) _).alloc (by rw [size_alloc]; omega) _
  have hS : wc.heap[w3.heap.size]? = some (.cells #[.int .i64 9, .string (cbs sn), .string (cbs so), .int .i64 sd, .slice sep sel sec, .slice sbp sbl sbc, .slice slp sll slc, .int .i64 sa, .int .i64 sr] 33 (0, 0)) := by rw [hwc]; exact alloc_box _ (heap_alloc_new w3 _)
  have hG : wc.heap[w3.heap.size + 1]? = some (.cells #[.int .i64 0, .int .i64 0] 25 (0, 0)) := by rw [hwc]; have := heap_alloc_new (w3.alloc (.cells #[.int .i64 9, .string (cbs sn), .string (cbs so), .int .i64 sd, .slice sep sel sec, .slice sbp sbl sbc, .slice slp sll slc, .int .i64 sa, .int .i64 sr] 33)) (.cells #[.int .i64 0, .int .i64 0] 25); rw [size_alloc] at this; exact this
  clear hwc
  have hK := (hb5.cell (p := ⟨w.heap.size + 1, 6, none⟩) hKl).trans HK.out
  have hA : wc.cell? ⟨w.heap.size + 1 + 1, 6, none⟩ = some (.int .i64 0) := by rw [cell_of_row _ _ _ _ _ _ ((hb5.block _ HL3.out).trans HA.out)]; rfl
  have HS0 : Hid (wc.cell? ⟨w3.heap.size + 1, 0, none⟩ = some (.int .i64 0) ∧ wc.cell? ⟨w3.heap.size, 0, none⟩ = some (.int .i64 9) ∧ wc.cell? ⟨w.heap.size + 1, 6, none⟩ = some (.int .i64 9)) := Lib.hid ⟨(duo hG).1.1, (nen hS).1.1, hK⟩
  have HLT := Lib.hid (show w3.heap.size + 1 < wc.heap.size ∧ w3.heap.size < wc.heap.size ∧ w.heap.size + 1 < wc.heap.size from ⟨heap_lt' hG, heap_lt' hS, by have := HL3.out; have := hb5.size; omega⟩)
  have HW := Lib.hid (below_seq HB3.out hb5 HB3.out.size)
  clear hb5 hS hG hK hA hKl HK HA HB3 HB1 HB0
  have HKN := Lib.hid (known4_any wc.drew (by obtain ⟨gt, gfr, hg⟩ := HOP.out; exact ⟨gt, gfr, (HW.out.block _ (heap_lt' hg)).trans hg⟩))
  obtain ⟨e0, e1, e2⟩ := HS0.out
  have hwr : IntKind.i64.wrap (5 : Int) = 5 := by decide
  go_region_held3 (fun w' => w'.cell? ⟨w3.heap.size + 1, 0, none⟩ = some (.int .i64 0) ∧ w'.cell? ⟨w3.heap.size, 0, none⟩ = some (.int .i64 9) ∧ w'.cell? ⟨w.heap.size + 1, 6, none⟩ = some (.int .i64 9)) (first | exact HS0.out | exact HS4.out) (first
    | (go_at_call 8; (with_reducible refine Calls.mono HKN.out ?_); rintro e w4 ⟨rfl, hb4⟩; have HB4 := Lib.hid (below_seq ((Below.refl wc.heap.size wc).drew) hb4 (Nat.le_refl _)); have HS4 : Hid (w4.cell? ⟨w3.heap.size + 1, 0, none⟩ = some (.int .i64 0) ∧ w4.cell? ⟨w3.heap.size, 0, none⟩ = some (.int .i64 9) ∧ w4.cell? ⟨w.heap.size + 1, 6, none⟩ = some (.int .i64 9)) := Lib.hid ⟨(HB4.out.cell (p := ⟨w3.heap.size + 1, 0, none⟩) HLT.out.1).trans HS0.out.1, (HB4.out.cell (p := ⟨w3.heap.size, 0, none⟩) HLT.out.2.1).trans HS0.out.2.1, (HB4.out.cell (p := ⟨w.heap.size + 1, 6, none⟩) HLT.out.2.2).trans HS0.out.2.2⟩; clear hb4 HKN))
  go_wp2_with fail
  go_ret
  exact ⟨rfl, below_seq HW.out HB4.out HW.out.size⟩

def oddU7 : List Ln.Lx.Tk := (Ln.Lx.toks [40, 120, 41, 32, 61, 32, 49, 59]).1
set_option maxRecDepth 40000 in
theorem oddT7 : Ln.Lx.toks [40, 120, 41, 32, 61, 32, 49, 59] = (oddU7, 0, 0) := by kernel_rfl
theorem oddN7 : oddU7.length = 7 := by kernel_rfl
set_option maxRecDepth 40000 in
theorem oddP7 : oddly oddU7 7 = some (3, 6, 0, 0) := by kernel_rfl
theorem oddS7 : ∀ t ∈ oddU7, t.text.length ≤ 281474976710656 := by
  have h : (oddU7.all fun t => decide (t.text.length ≤ 281474976710656)) = true := by kernel_rfl
  exact fun t ht => of_decide_eq_true (List.all_eq_true.1 h t ht)

set_option maxRecDepth 40000 in
set_option maxHeartbeats 8000000 in
theorem odd4_7 (w : World) (hops : OpsIn w) :
    Calls Tryd.prog 4 #[.int .i64 7] w fun e w' => e = .returned (.bool true) ∧ Below w.heap.size w w' := by
  obtain ⟨m, hm, hmk⟩ := oddly_out oddP7
  have HM := Lib.hid hm
  have HMK := Lib.hid hmk
  have HOP := Lib.hid hops
  obtain ⟨w0, hw0⟩ : ∃ w0, w0 = ((w.alloc (.cells #[.string ⟨#[120, 59]⟩, .string ⟨#[120, 32, 43, 32, 49, 59]⟩, .string ⟨#[120, 46, 102, 32, 61, 32, 50, 59]⟩, .string ⟨#[120, 91, 49, 93, 32, 61, 32, 50, 59]⟩, .string ⟨#[102, 40, 41, 32, 61, 32, 50, 59]⟩, .string ⟨#[49, 32, 61, 32, 50, 59]⟩, .string ⟨#[102, 40, 49, 41, 59]⟩, .string ⟨#[40, 120, 41, 32, 61, 32, 49, 59]⟩, .string ⟨#[45, 120, 32, 61, 32, 49, 59]⟩, .string ⟨#[114, 101, 116, 117, 114, 110]⟩, .string ⟨#[114, 101, 116, 117, 114, 110, 59]⟩, .string ⟨#[114, 101, 116, 117, 114, 110, 32, 49, 59]⟩, .string ⟨#[108, 101, 116, 32, 120, 32, 61, 32, 49, 59]⟩, .string ⟨#[118, 97, 114, 32, 120, 58, 32, 91, 91, 105, 110, 116, 93, 93, 59]⟩, .string ⟨#[118, 97, 114, 32, 120, 58, 32, 91, 91, 91, 91, 105, 110, 116, 93, 93, 93, 93, 59]⟩, .string ⟨#[105, 102, 32, 98, 32, 123, 32, 125, 32, 101, 108, 115, 101, 32, 102, 40, 41, 59]⟩, .string ⟨#[112, 114, 105, 110, 116, 59]⟩, .string ⟨#[119, 104, 105, 108, 101, 32, 123, 32, 125]⟩, .string ⟨#[120, 32, 61, 32, 59]⟩, .string ⟨#[102, 40, 41, 46, 103, 32, 61, 32, 49, 59]⟩] 9)).alloc (.cells #[.int .i64 0, .int .i64 0, .int .i64 4, .int .i64 4, .int .i64 0, .int .i64 0, .int .i64 9, .int .i64 3, .int .i64 0, .int .i64 0, .int .i64 7, .int .i64 7, .int .i64 0, .int .i64 1, .int .i64 0, .int .i64 0, .int .i64 0, .int .i64 0, .int .i64 0, .int .i64 4] 3)).alloc (.cells #[.int .i64 1, .int .i64 5, .int .i64 0, .int .i64 0, .int .i64 4, .int .i64 2, .int .i64 0, .int .i64 0, .int .i64 3, .int .i64 6, .int .i64 0, .int .i64 0, .int .i64 6, .int .i64 0, .int .i64 10, .int .i64 14, .int .i64 5, .int .i64 6, .int .i64 4, .int .i64 0] 3) := ⟨_, rfl⟩
  have hb0 : Below w.heap.size w w0 := by rw [hw0]; exact (((Below.refl _ _).alloc (Nat.le_refl _) _).alloc (by simp only [size_alloc]; omega) _).alloc (by simp only [size_alloc]; omega) _
  have hkK : w0.heap[w.heap.size + 1]? = some (.cells #[.int .i64 0, .int .i64 0, .int .i64 4, .int .i64 4, .int .i64 0, .int .i64 0, .int .i64 9, .int .i64 3, .int .i64 0, .int .i64 0, .int .i64 7, .int .i64 7, .int .i64 0, .int .i64 1, .int .i64 0, .int .i64 0, .int .i64 0, .int .i64 0, .int .i64 0, .int .i64 4] 3 (0, 0)) := by rw [hw0]; have := heap_alloc_new (w.alloc (.cells #[.string ⟨#[120, 59]⟩, .string ⟨#[120, 32, 43, 32, 49, 59]⟩, .string ⟨#[120, 46, 102, 32, 61, 32, 50, 59]⟩, .string ⟨#[120, 91, 49, 93, 32, 61, 32, 50, 59]⟩, .string ⟨#[102, 40, 41, 32, 61, 32, 50, 59]⟩, .string ⟨#[49, 32, 61, 32, 50, 59]⟩, .string ⟨#[102, 40, 49, 41, 59]⟩, .string ⟨#[40, 120, 41, 32, 61, 32, 49, 59]⟩, .string ⟨#[45, 120, 32, 61, 32, 49, 59]⟩, .string ⟨#[114, 101, 116, 117, 114, 110]⟩, .string ⟨#[114, 101, 116, 117, 114, 110, 59]⟩, .string ⟨#[114, 101, 116, 117, 114, 110, 32, 49, 59]⟩, .string ⟨#[108, 101, 116, 32, 120, 32, 61, 32, 49, 59]⟩, .string ⟨#[118, 97, 114, 32, 120, 58, 32, 91, 91, 105, 110, 116, 93, 93, 59]⟩, .string ⟨#[118, 97, 114, 32, 120, 58, 32, 91, 91, 91, 91, 105, 110, 116, 93, 93, 93, 93, 59]⟩, .string ⟨#[105, 102, 32, 98, 32, 123, 32, 125, 32, 101, 108, 115, 101, 32, 102, 40, 41, 59]⟩, .string ⟨#[112, 114, 105, 110, 116, 59]⟩, .string ⟨#[119, 104, 105, 108, 101, 32, 123, 32, 125]⟩, .string ⟨#[120, 32, 61, 32, 59]⟩, .string ⟨#[102, 40, 41, 46, 103, 32, 61, 32, 49, 59]⟩] 9)) (.cells #[.int .i64 0, .int .i64 0, .int .i64 4, .int .i64 4, .int .i64 0, .int .i64 0, .int .i64 9, .int .i64 3, .int .i64 0, .int .i64 0, .int .i64 7, .int .i64 7, .int .i64 0, .int .i64 1, .int .i64 0, .int .i64 0, .int .i64 0, .int .i64 0, .int .i64 0, .int .i64 4] 3); rw [size_alloc] at this; exact alloc_box _ this
  have hkA : w0.heap[w.heap.size + 1 + 1]? = some (.cells #[.int .i64 1, .int .i64 5, .int .i64 0, .int .i64 0, .int .i64 4, .int .i64 2, .int .i64 0, .int .i64 0, .int .i64 3, .int .i64 6, .int .i64 0, .int .i64 0, .int .i64 6, .int .i64 0, .int .i64 10, .int .i64 14, .int .i64 5, .int .i64 6, .int .i64 4, .int .i64 0] 3 (0, 0)) := by rw [hw0]; have := heap_alloc_new ((w.alloc (.cells #[.string ⟨#[120, 59]⟩, .string ⟨#[120, 32, 43, 32, 49, 59]⟩, .string ⟨#[120, 46, 102, 32, 61, 32, 50, 59]⟩, .string ⟨#[120, 91, 49, 93, 32, 61, 32, 50, 59]⟩, .string ⟨#[102, 40, 41, 32, 61, 32, 50, 59]⟩, .string ⟨#[49, 32, 61, 32, 50, 59]⟩, .string ⟨#[102, 40, 49, 41, 59]⟩, .string ⟨#[40, 120, 41, 32, 61, 32, 49, 59]⟩, .string ⟨#[45, 120, 32, 61, 32, 49, 59]⟩, .string ⟨#[114, 101, 116, 117, 114, 110]⟩, .string ⟨#[114, 101, 116, 117, 114, 110, 59]⟩, .string ⟨#[114, 101, 116, 117, 114, 110, 32, 49, 59]⟩, .string ⟨#[108, 101, 116, 32, 120, 32, 61, 32, 49, 59]⟩, .string ⟨#[118, 97, 114, 32, 120, 58, 32, 91, 91, 105, 110, 116, 93, 93, 59]⟩, .string ⟨#[118, 97, 114, 32, 120, 58, 32, 91, 91, 91, 91, 105, 110, 116, 93, 93, 93, 93, 59]⟩, .string ⟨#[105, 102, 32, 98, 32, 123, 32, 125, 32, 101, 108, 115, 101, 32, 102, 40, 41, 59]⟩, .string ⟨#[112, 114, 105, 110, 116, 59]⟩, .string ⟨#[119, 104, 105, 108, 101, 32, 123, 32, 125]⟩, .string ⟨#[120, 32, 61, 32, 59]⟩, .string ⟨#[102, 40, 41, 46, 103, 32, 61, 32, 49, 59]⟩] 9)).alloc (.cells #[.int .i64 0, .int .i64 0, .int .i64 4, .int .i64 4, .int .i64 0, .int .i64 0, .int .i64 9, .int .i64 3, .int .i64 0, .int .i64 0, .int .i64 7, .int .i64 7, .int .i64 0, .int .i64 1, .int .i64 0, .int .i64 0, .int .i64 0, .int .i64 0, .int .i64 0, .int .i64 4] 3)) (.cells #[.int .i64 1, .int .i64 5, .int .i64 0, .int .i64 0, .int .i64 4, .int .i64 2, .int .i64 0, .int .i64 0, .int .i64 3, .int .i64 6, .int .i64 0, .int .i64 0, .int .i64 6, .int .i64 0, .int .i64 10, .int .i64 14, .int .i64 5, .int .i64 6, .int .i64 4, .int .i64 0] 3); simp only [size_alloc] at this; exact this
  have HKK := Lib.hid hkK
  have HKA := Lib.hid hkA
  have HB0 := Lib.hid hb0
  clear hm hmk hops hkK hkA hb0
  go_enter Tryd.func4, Tryd.ntmps4
  go_wp2_with fail
  rw [← hw0]
  clear hw0
  have htk := tokens_are ⟨#[40, 120, 41, 32, 61, 32, 49, 59]⟩ (by decide) oddU7 0 0 oddT7 w0
  rw [oddN7] at htk
  refine (htk).mono ?_
  clear htk
  rintro e w1 ⟨A, cA, rfl, hl1, hb1⟩
  have hbf : Below w1.heap.size w1 (w1.alloc (.cells #[.int .i64 0, .int .i64 0] 25)) := (Below.refl _ _).alloc (Nat.le_refl _) _
  have ht := (toks_of (c := cA) hl1 oddS7).below hbf
  rw [oddN7] at ht
  have HT := Lib.hid ht
  have hb01 := below_seq hb1 hbf hb1.size
  have HB1 := Lib.hid (below_seq HB0.out hb01 HB0.out.size)
  have HKK1 := Lib.hid ((hb01.block _ (heap_lt' HKK.out)).trans HKK.out)
  have HKA1 := Lib.hid ((hb01.block _ (heap_lt' HKA.out)).trans HKA.out)
  clear ht hl1 hb1 hbf hb01 HKK HKA
  go_wp2_with fail
  have hlen : (oddU7.map toRT).length ≤ 90000000 := by rw [List.length_map, oddN7]; decide
  refine (stParse_any _ _ _ (oddU7.map toRT) (pxBy oddU7 (10 * 7 + 20)) (pok_of hlen (pxBy_is oddN7 (by decide))) 0 0 HT.out (by obtain ⟨gt, gfr, hg⟩ := HOP.out; exact ⟨gt, gfr, (HB1.out.block _ (heap_lt' hg)).trans hg⟩) (10 * 7 + 20) (by decide) _ HM.out).mono ?_
  rintro e w3 ⟨sk, sn, so, sd, sep, sel, sec, sbp, sbl, sbc, slp, sll, slc, sa, sr, rfl, hs, hb3⟩
  have hsk := hs.kindM
  rw [HMK.out] at hsk
  subst hsk
  have hKr := (hb3.block _ (heap_lt' HKK1.out)).trans HKK1.out
  have hK : w3.cell? ⟨w.heap.size + 1, 7, none⟩ = some (.int .i64 3) := by rw [cell_of_row _ _ _ _ _ _ hKr]; rfl
  have hKl := heap_lt' hKr
  have hAr := (hb3.block _ (heap_lt' HKA1.out)).trans HKA1.out
  have HA := Lib.hid hAr
  have HK := Lib.hid hK
  have HL3 := Lib.hid (heap_lt' hAr)
  have HB3 := Lib.hid (below_seq HB1.out hb3 HB1.out.size)
  clear hs hb3 hKr hAr HT HKK1 HKA1 hlen
  dsimp only
  have hKw : ((w3.alloc (.cells #[.int .i64 3, .string (cbs sn), .string (cbs so), .int .i64 sd, .slice sep sel sec, .slice sbp sbl sbc, .slice slp sll slc, .int .i64 sa, .int .i64 sr] 33)).alloc (.cells #[.int .i64 0, .int .i64 0] 25)).cell? ⟨w.heap.size + 1, 7, none⟩ = some (.int .i64 3) :=
    ((((Below.refl _ _).alloc (Nat.le_refl _) _).alloc (by rw [size_alloc]; omega) _ : Below w3.heap.size w3 ((w3.alloc (.cells #[.int .i64 3, .string (cbs sn), .string (cbs so), .int .i64 sd, .slice sep sel sec, .slice sbp sbl sbc, .slice slp sll slc, .int .i64 sa, .int .i64 sr] 33)).alloc (.cells #[.int .i64 0, .int .i64 0] 25))).cell (p := ⟨w.heap.size + 1, 7, none⟩) hKl).trans hK
  go_wp2_with fail
  clear hK hKw
  obtain ⟨wc, hwc⟩ : ∃ wc, wc = (w3.alloc (.cells #[.int .i64 3, .string (cbs sn), .string (cbs so), .int .i64 sd, .slice sep sel sec, .slice sbp sbl sbc, .slice slp sll slc, .int .i64 sa, .int .i64 sr] 33)).alloc (.cells #[.int .i64 0, .int .i64 0] 25) := ⟨_, rfl⟩
  try rw [← hwc]
  have hb5 : Below w3.heap.size w3 wc := by rw [hwc]; exact ((Below.refl _ _).alloc (Nat.le_refl _) _).alloc (by rw [size_alloc]; omega) _
  have hS : wc.heap[w3.heap.size]? = some (.cells #[.int .i64 3, .string (cbs sn), .string (cbs so), .int .i64 sd, .slice sep sel sec, .slice sbp sbl sbc, .slice slp sll slc, .int .i64 sa, .int .i64 sr] 33 (0, 0)) := by rw [hwc]; exact alloc_box _ (heap_alloc_new w3 _)
  have hG : wc.heap[w3.heap.size + 1]? = some (.cells #[.int .i64 0, .int .i64 0] 25 (0, 0)) := by rw [hwc]; have := heap_alloc_new (w3.alloc (.cells #[.int .i64 3, .string (cbs sn), .string (cbs so), .int .i64 sd, .slice sep sel sec, .slice sbp sbl sbc, .slice slp sll slc, .int .i64 sa, .int .i64 sr] 33)) (.cells #[.int .i64 0, .int .i64 0] 25); rw [size_alloc] at this; exact this
  clear hwc
  have hK := (hb5.cell (p := ⟨w.heap.size + 1, 7, none⟩) hKl).trans HK.out
  have hA : wc.cell? ⟨w.heap.size + 1 + 1, 7, none⟩ = some (.int .i64 0) := by rw [cell_of_row _ _ _ _ _ _ ((hb5.block _ HL3.out).trans HA.out)]; rfl
  have HS0 : Hid (wc.cell? ⟨w3.heap.size + 1, 0, none⟩ = some (.int .i64 0) ∧ wc.cell? ⟨w3.heap.size, 0, none⟩ = some (.int .i64 3) ∧ wc.cell? ⟨w.heap.size + 1, 7, none⟩ = some (.int .i64 3)) := Lib.hid ⟨(duo hG).1.1, (nen hS).1.1, hK⟩
  have HLT := Lib.hid (show w3.heap.size + 1 < wc.heap.size ∧ w3.heap.size < wc.heap.size ∧ w.heap.size + 1 < wc.heap.size from ⟨heap_lt' hG, heap_lt' hS, by have := HL3.out; have := hb5.size; omega⟩)
  have HW := Lib.hid (below_seq HB3.out hb5 HB3.out.size)
  clear hb5 hS hG hK hA hKl HK HA HB3 HB1 HB0
  have HKN := Lib.hid (known4_any wc.drew (by obtain ⟨gt, gfr, hg⟩ := HOP.out; exact ⟨gt, gfr, (HW.out.block _ (heap_lt' hg)).trans hg⟩))
  obtain ⟨e0, e1, e2⟩ := HS0.out
  have hwr : IntKind.i64.wrap (6 : Int) = 6 := by decide
  go_region_held3 (fun w' => w'.cell? ⟨w3.heap.size + 1, 0, none⟩ = some (.int .i64 0) ∧ w'.cell? ⟨w3.heap.size, 0, none⟩ = some (.int .i64 3) ∧ w'.cell? ⟨w.heap.size + 1, 7, none⟩ = some (.int .i64 3)) (first | exact HS0.out | exact HS4.out) (first
    | (go_at_call 8; (with_reducible refine Calls.mono HKN.out ?_); rintro e w4 ⟨rfl, hb4⟩; have HB4 := Lib.hid (below_seq ((Below.refl wc.heap.size wc).drew) hb4 (Nat.le_refl _)); have HS4 : Hid (w4.cell? ⟨w3.heap.size + 1, 0, none⟩ = some (.int .i64 0) ∧ w4.cell? ⟨w3.heap.size, 0, none⟩ = some (.int .i64 3) ∧ w4.cell? ⟨w.heap.size + 1, 7, none⟩ = some (.int .i64 3)) := Lib.hid ⟨(HB4.out.cell (p := ⟨w3.heap.size + 1, 0, none⟩) HLT.out.1).trans HS0.out.1, (HB4.out.cell (p := ⟨w3.heap.size, 0, none⟩) HLT.out.2.1).trans HS0.out.2.1, (HB4.out.cell (p := ⟨w.heap.size + 1, 7, none⟩) HLT.out.2.2).trans HS0.out.2.2⟩; clear hb4 HKN))
  go_wp2_with fail
  go_ret
  exact ⟨rfl, below_seq HW.out HB4.out HW.out.size⟩

def oddU8 : List Ln.Lx.Tk := (Ln.Lx.toks [45, 120, 32, 61, 32, 49, 59]).1
set_option maxRecDepth 40000 in
theorem oddT8 : Ln.Lx.toks [45, 120, 32, 61, 32, 49, 59] = (oddU8, 0, 0) := by kernel_rfl
theorem oddN8 : oddU8.length = 6 := by kernel_rfl
set_option maxRecDepth 40000 in
theorem oddP8 : oddly oddU8 6 = some (0, 0, 2, 3) := by kernel_rfl
theorem oddS8 : ∀ t ∈ oddU8, t.text.length ≤ 281474976710656 := by
  have h : (oddU8.all fun t => decide (t.text.length ≤ 281474976710656)) = true := by kernel_rfl
  exact fun t ht => of_decide_eq_true (List.all_eq_true.1 h t ht)

set_option maxRecDepth 40000 in
set_option maxHeartbeats 8000000 in
theorem odd4_8 (w : World) (hops : OpsIn w) :
    Calls Tryd.prog 4 #[.int .i64 8] w fun e w' => e = .returned (.bool true) ∧ Below w.heap.size w w' := by
  obtain ⟨m, hm, hmk⟩ := oddly_out oddP8
  have HM := Lib.hid hm
  have HMK := Lib.hid hmk
  have HOP := Lib.hid hops
  obtain ⟨w0, hw0⟩ : ∃ w0, w0 = ((w.alloc (.cells #[.string ⟨#[120, 59]⟩, .string ⟨#[120, 32, 43, 32, 49, 59]⟩, .string ⟨#[120, 46, 102, 32, 61, 32, 50, 59]⟩, .string ⟨#[120, 91, 49, 93, 32, 61, 32, 50, 59]⟩, .string ⟨#[102, 40, 41, 32, 61, 32, 50, 59]⟩, .string ⟨#[49, 32, 61, 32, 50, 59]⟩, .string ⟨#[102, 40, 49, 41, 59]⟩, .string ⟨#[40, 120, 41, 32, 61, 32, 49, 59]⟩, .string ⟨#[45, 120, 32, 61, 32, 49, 59]⟩, .string ⟨#[114, 101, 116, 117, 114, 110]⟩, .string ⟨#[114, 101, 116, 117, 114, 110, 59]⟩, .string ⟨#[114, 101, 116, 117, 114, 110, 32, 49, 59]⟩, .string ⟨#[108, 101, 116, 32, 120, 32, 61, 32, 49, 59]⟩, .string ⟨#[118, 97, 114, 32, 120, 58, 32, 91, 91, 105, 110, 116, 93, 93, 59]⟩, .string ⟨#[118, 97, 114, 32, 120, 58, 32, 91, 91, 91, 91, 105, 110, 116, 93, 93, 93, 93, 59]⟩, .string ⟨#[105, 102, 32, 98, 32, 123, 32, 125, 32, 101, 108, 115, 101, 32, 102, 40, 41, 59]⟩, .string ⟨#[112, 114, 105, 110, 116, 59]⟩, .string ⟨#[119, 104, 105, 108, 101, 32, 123, 32, 125]⟩, .string ⟨#[120, 32, 61, 32, 59]⟩, .string ⟨#[102, 40, 41, 46, 103, 32, 61, 32, 49, 59]⟩] 9)).alloc (.cells #[.int .i64 0, .int .i64 0, .int .i64 4, .int .i64 4, .int .i64 0, .int .i64 0, .int .i64 9, .int .i64 3, .int .i64 0, .int .i64 0, .int .i64 7, .int .i64 7, .int .i64 0, .int .i64 1, .int .i64 0, .int .i64 0, .int .i64 0, .int .i64 0, .int .i64 0, .int .i64 4] 3)).alloc (.cells #[.int .i64 1, .int .i64 5, .int .i64 0, .int .i64 0, .int .i64 4, .int .i64 2, .int .i64 0, .int .i64 0, .int .i64 3, .int .i64 6, .int .i64 0, .int .i64 0, .int .i64 6, .int .i64 0, .int .i64 10, .int .i64 14, .int .i64 5, .int .i64 6, .int .i64 4, .int .i64 0] 3) := ⟨_, rfl⟩
  have hb0 : Below w.heap.size w w0 := by rw [hw0]; exact (((Below.refl _ _).alloc (Nat.le_refl _) _).alloc (by simp only [size_alloc]; omega) _).alloc (by simp only [size_alloc]; omega) _
  have hkK : w0.heap[w.heap.size + 1]? = some (.cells #[.int .i64 0, .int .i64 0, .int .i64 4, .int .i64 4, .int .i64 0, .int .i64 0, .int .i64 9, .int .i64 3, .int .i64 0, .int .i64 0, .int .i64 7, .int .i64 7, .int .i64 0, .int .i64 1, .int .i64 0, .int .i64 0, .int .i64 0, .int .i64 0, .int .i64 0, .int .i64 4] 3 (0, 0)) := by rw [hw0]; have := heap_alloc_new (w.alloc (.cells #[.string ⟨#[120, 59]⟩, .string ⟨#[120, 32, 43, 32, 49, 59]⟩, .string ⟨#[120, 46, 102, 32, 61, 32, 50, 59]⟩, .string ⟨#[120, 91, 49, 93, 32, 61, 32, 50, 59]⟩, .string ⟨#[102, 40, 41, 32, 61, 32, 50, 59]⟩, .string ⟨#[49, 32, 61, 32, 50, 59]⟩, .string ⟨#[102, 40, 49, 41, 59]⟩, .string ⟨#[40, 120, 41, 32, 61, 32, 49, 59]⟩, .string ⟨#[45, 120, 32, 61, 32, 49, 59]⟩, .string ⟨#[114, 101, 116, 117, 114, 110]⟩, .string ⟨#[114, 101, 116, 117, 114, 110, 59]⟩, .string ⟨#[114, 101, 116, 117, 114, 110, 32, 49, 59]⟩, .string ⟨#[108, 101, 116, 32, 120, 32, 61, 32, 49, 59]⟩, .string ⟨#[118, 97, 114, 32, 120, 58, 32, 91, 91, 105, 110, 116, 93, 93, 59]⟩, .string ⟨#[118, 97, 114, 32, 120, 58, 32, 91, 91, 91, 91, 105, 110, 116, 93, 93, 93, 93, 59]⟩, .string ⟨#[105, 102, 32, 98, 32, 123, 32, 125, 32, 101, 108, 115, 101, 32, 102, 40, 41, 59]⟩, .string ⟨#[112, 114, 105, 110, 116, 59]⟩, .string ⟨#[119, 104, 105, 108, 101, 32, 123, 32, 125]⟩, .string ⟨#[120, 32, 61, 32, 59]⟩, .string ⟨#[102, 40, 41, 46, 103, 32, 61, 32, 49, 59]⟩] 9)) (.cells #[.int .i64 0, .int .i64 0, .int .i64 4, .int .i64 4, .int .i64 0, .int .i64 0, .int .i64 9, .int .i64 3, .int .i64 0, .int .i64 0, .int .i64 7, .int .i64 7, .int .i64 0, .int .i64 1, .int .i64 0, .int .i64 0, .int .i64 0, .int .i64 0, .int .i64 0, .int .i64 4] 3); rw [size_alloc] at this; exact alloc_box _ this
  have hkA : w0.heap[w.heap.size + 1 + 1]? = some (.cells #[.int .i64 1, .int .i64 5, .int .i64 0, .int .i64 0, .int .i64 4, .int .i64 2, .int .i64 0, .int .i64 0, .int .i64 3, .int .i64 6, .int .i64 0, .int .i64 0, .int .i64 6, .int .i64 0, .int .i64 10, .int .i64 14, .int .i64 5, .int .i64 6, .int .i64 4, .int .i64 0] 3 (0, 0)) := by rw [hw0]; have := heap_alloc_new ((w.alloc (.cells #[.string ⟨#[120, 59]⟩, .string ⟨#[120, 32, 43, 32, 49, 59]⟩, .string ⟨#[120, 46, 102, 32, 61, 32, 50, 59]⟩, .string ⟨#[120, 91, 49, 93, 32, 61, 32, 50, 59]⟩, .string ⟨#[102, 40, 41, 32, 61, 32, 50, 59]⟩, .string ⟨#[49, 32, 61, 32, 50, 59]⟩, .string ⟨#[102, 40, 49, 41, 59]⟩, .string ⟨#[40, 120, 41, 32, 61, 32, 49, 59]⟩, .string ⟨#[45, 120, 32, 61, 32, 49, 59]⟩, .string ⟨#[114, 101, 116, 117, 114, 110]⟩, .string ⟨#[114, 101, 116, 117, 114, 110, 59]⟩, .string ⟨#[114, 101, 116, 117, 114, 110, 32, 49, 59]⟩, .string ⟨#[108, 101, 116, 32, 120, 32, 61, 32, 49, 59]⟩, .string ⟨#[118, 97, 114, 32, 120, 58, 32, 91, 91, 105, 110, 116, 93, 93, 59]⟩, .string ⟨#[118, 97, 114, 32, 120, 58, 32, 91, 91, 91, 91, 105, 110, 116, 93, 93, 93, 93, 59]⟩, .string ⟨#[105, 102, 32, 98, 32, 123, 32, 125, 32, 101, 108, 115, 101, 32, 102, 40, 41, 59]⟩, .string ⟨#[112, 114, 105, 110, 116, 59]⟩, .string ⟨#[119, 104, 105, 108, 101, 32, 123, 32, 125]⟩, .string ⟨#[120, 32, 61, 32, 59]⟩, .string ⟨#[102, 40, 41, 46, 103, 32, 61, 32, 49, 59]⟩] 9)).alloc (.cells #[.int .i64 0, .int .i64 0, .int .i64 4, .int .i64 4, .int .i64 0, .int .i64 0, .int .i64 9, .int .i64 3, .int .i64 0, .int .i64 0, .int .i64 7, .int .i64 7, .int .i64 0, .int .i64 1, .int .i64 0, .int .i64 0, .int .i64 0, .int .i64 0, .int .i64 0, .int .i64 4] 3)) (.cells #[.int .i64 1, .int .i64 5, .int .i64 0, .int .i64 0, .int .i64 4, .int .i64 2, .int .i64 0, .int .i64 0, .int .i64 3, .int .i64 6, .int .i64 0, .int .i64 0, .int .i64 6, .int .i64 0, .int .i64 10, .int .i64 14, .int .i64 5, .int .i64 6, .int .i64 4, .int .i64 0] 3); simp only [size_alloc] at this; exact this
  have HKK := Lib.hid hkK
  have HKA := Lib.hid hkA
  have HB0 := Lib.hid hb0
  clear hm hmk hops hkK hkA hb0
  go_enter Tryd.func4, Tryd.ntmps4
  go_wp2_with fail
  rw [← hw0]
  clear hw0
  have htk := tokens_are ⟨#[45, 120, 32, 61, 32, 49, 59]⟩ (by decide) oddU8 0 0 oddT8 w0
  rw [oddN8] at htk
  refine (htk).mono ?_
  clear htk
  rintro e w1 ⟨A, cA, rfl, hl1, hb1⟩
  have hbf : Below w1.heap.size w1 (w1.alloc (.cells #[.int .i64 0, .int .i64 0] 25)) := (Below.refl _ _).alloc (Nat.le_refl _) _
  have ht := (toks_of (c := cA) hl1 oddS8).below hbf
  rw [oddN8] at ht
  have HT := Lib.hid ht
  have hb01 := below_seq hb1 hbf hb1.size
  have HB1 := Lib.hid (below_seq HB0.out hb01 HB0.out.size)
  have HKK1 := Lib.hid ((hb01.block _ (heap_lt' HKK.out)).trans HKK.out)
  have HKA1 := Lib.hid ((hb01.block _ (heap_lt' HKA.out)).trans HKA.out)
  clear ht hl1 hb1 hbf hb01 HKK HKA
  go_wp2_with fail
  have hlen : (oddU8.map toRT).length ≤ 90000000 := by rw [List.length_map, oddN8]; decide
  refine (stParse_any _ _ _ (oddU8.map toRT) (pxBy oddU8 (10 * 6 + 20)) (pok_of hlen (pxBy_is oddN8 (by decide))) 0 0 HT.out (by obtain ⟨gt, gfr, hg⟩ := HOP.out; exact ⟨gt, gfr, (HB1.out.block _ (heap_lt' hg)).trans hg⟩) (10 * 6 + 20) (by decide) _ HM.out).mono ?_
  rintro e w3 ⟨sk, sn, so, sd, sep, sel, sec, sbp, sbl, sbc, slp, sll, slc, sa, sr, rfl, hs, hb3⟩
  have hsk := hs.kindM
  clear hsk
  have hKr := (hb3.block _ (heap_lt' HKK1.out)).trans HKK1.out
  have hK : w3.cell? ⟨w.heap.size + 1, 8, none⟩ = some (.int .i64 0) := by rw [cell_of_row _ _ _ _ _ _ hKr]; rfl
  have hKl := heap_lt' hKr
  have hAr := (hb3.block _ (heap_lt' HKA1.out)).trans HKA1.out
  have HA := Lib.hid hAr
  have HK := Lib.hid hK
  have HL3 := Lib.hid (heap_lt' hAr)
  have HB3 := Lib.hid (below_seq HB1.out hb3 HB1.out.size)
  clear hs hb3 hKr hAr HT HKK1 HKA1 hlen
  dsimp only
  have hKw : ((w3.alloc (.cells #[.int .i64 sk, .string (cbs sn), .string (cbs so), .int .i64 sd, .slice sep sel sec, .slice sbp sbl sbc, .slice slp sll slc, .int .i64 sa, .int .i64 sr] 33)).alloc (.cells #[.int .i64 2, .int .i64 3] 25)).cell? ⟨w.heap.size + 1, 8, none⟩ = some (.int .i64 0) :=
    ((((Below.refl _ _).alloc (Nat.le_refl _) _).alloc (by rw [size_alloc]; omega) _ : Below w3.heap.size w3 ((w3.alloc (.cells #[.int .i64 sk, .string (cbs sn), .string (cbs so), .int .i64 sd, .slice sep sel sec, .slice sbp sbl sbc, .slice slp sll slc, .int .i64 sa, .int .i64 sr] 33)).alloc (.cells #[.int .i64 2, .int .i64 3] 25))).cell (p := ⟨w.heap.size + 1, 8, none⟩) hKl).trans hK
  go_wp2_with fail
  clear hK hKw
  obtain ⟨wc, hwc⟩ : ∃ wc, wc = (w3.alloc (.cells #[.int .i64 sk, .string (cbs sn), .string (cbs so), .int .i64 sd, .slice sep sel sec, .slice sbp sbl sbc, .slice slp sll slc, .int .i64 sa, .int .i64 sr] 33)).alloc (.cells #[.int .i64 2, .int .i64 3] 25) := ⟨_, rfl⟩
  try rw [← hwc]
  have hb5 : Below w3.heap.size w3 wc := by rw [hwc]; exact ((Below.refl _ _).alloc (Nat.le_refl _) _).alloc (by rw [size_alloc]; omega) _
  have hS : wc.heap[w3.heap.size]? = some (.cells #[.int .i64 sk, .string (cbs sn), .string (cbs so), .int .i64 sd, .slice sep sel sec, .slice sbp sbl sbc, .slice slp sll slc, .int .i64 sa, .int .i64 sr] 33 (0, 0)) := by rw [hwc]; exact alloc_box _ (heap_alloc_new w3 _)
  have hG : wc.heap[w3.heap.size + 1]? = some (.cells #[.int .i64 2, .int .i64 3] 25 (0, 0)) := by rw [hwc]; have := heap_alloc_new (w3.alloc (.cells #[.int .i64 sk, .string (cbs sn), .string (cbs so), .int .i64 sd, .slice sep sel sec, .slice sbp sbl sbc, .slice slp sll slc, .int .i64 sa, .int .i64 sr] 33)) (.cells #[.int .i64 2, .int .i64 3] 25); rw [size_alloc] at this; exact this
  clear hwc
  have hK := (hb5.cell (p := ⟨w.heap.size + 1, 8, none⟩) hKl).trans HK.out
  have hA : wc.cell? ⟨w.heap.size + 1 + 1, 8, none⟩ = some (.int .i64 3) := by rw [cell_of_row _ _ _ _ _ _ ((hb5.block _ HL3.out).trans HA.out)]; rfl
  have HS0 : Hid (wc.cell? ⟨w3.heap.size + 1, 0, none⟩ = some (.int .i64 2) ∧ wc.cell? ⟨w3.heap.size + 1, 1, none⟩ = some (.int .i64 3) ∧ wc.cell? ⟨w.heap.size + 1 + 1, 8, none⟩ = some (.int .i64 3)) := Lib.hid ⟨(duo hG).1.1, (duo hG).1.2, hA⟩
  have HLT := Lib.hid (show w3.heap.size + 1 < wc.heap.size ∧ w3.heap.size + 1 < wc.heap.size ∧ w.heap.size + 1 + 1 < wc.heap.size from ⟨heap_lt' hG, heap_lt' hG, by have := HL3.out; have := hb5.size; omega⟩)
  have HW := Lib.hid (below_seq HB3.out hb5 HB3.out.size)
  clear hb5 hS hG hK hA hKl HK HA HB3 HB1 HB0
  have HKN := Lib.hid (known4_any wc.drew (by obtain ⟨gt, gfr, hg⟩ := HOP.out; exact ⟨gt, gfr, (HW.out.block _ (heap_lt' hg)).trans hg⟩))
  obtain ⟨e0, e1, e2⟩ := HS0.out
  have hq := eq_f2 2 3 2 3
  go_region_held3 (fun w' => w'.cell? ⟨w3.heap.size + 1, 0, none⟩ = some (.int .i64 2) ∧ w'.cell? ⟨w3.heap.size + 1, 1, none⟩ = some (.int .i64 3) ∧ w'.cell? ⟨w.heap.size + 1 + 1, 8, none⟩ = some (.int .i64 3)) (first | exact HS0.out | exact HS4.out) (first
    | (go_at_call 8; (with_reducible refine Calls.mono HKN.out ?_); rintro e w4 ⟨rfl, hb4⟩; have HB4 := Lib.hid (below_seq ((Below.refl wc.heap.size wc).drew) hb4 (Nat.le_refl _)); have HS4 : Hid (w4.cell? ⟨w3.heap.size + 1, 0, none⟩ = some (.int .i64 2) ∧ w4.cell? ⟨w3.heap.size + 1, 1, none⟩ = some (.int .i64 3) ∧ w4.cell? ⟨w.heap.size + 1 + 1, 8, none⟩ = some (.int .i64 3)) := Lib.hid ⟨(HB4.out.cell (p := ⟨w3.heap.size + 1, 0, none⟩) HLT.out.1).trans HS0.out.1, (HB4.out.cell (p := ⟨w3.heap.size + 1, 1, none⟩) HLT.out.2.1).trans HS0.out.2.1, (HB4.out.cell (p := ⟨w.heap.size + 1 + 1, 8, none⟩) HLT.out.2.2).trans HS0.out.2.2⟩; clear hb4 HKN))
  go_wp2_with fail
  go_ret
  exact ⟨rfl, below_seq HW.out HB4.out HW.out.size⟩

def oddU9 : List Ln.Lx.Tk := (Ln.Lx.toks [114, 101, 116, 117, 114, 110]).1
set_option maxRecDepth 40000 in
theorem oddT9 : Ln.Lx.toks [114, 101, 116, 117, 114, 110] = (oddU9, 0, 0) := by kernel_rfl
theorem oddN9 : oddU9.length = 2 := by kernel_rfl
set_option maxRecDepth 40000 in
theorem oddP9 : oddly oddU9 2 = some (0, 0, 2, 6) := by kernel_rfl
theorem oddS9 : ∀ t ∈ oddU9, t.text.length ≤ 281474976710656 := by
  have h : (oddU9.all fun t => decide (t.text.length ≤ 281474976710656)) = true := by kernel_rfl
  exact fun t ht => of_decide_eq_true (List.all_eq_true.1 h t ht)

set_option maxRecDepth 40000 in
set_option maxHeartbeats 8000000 in
theorem odd4_9 (w : World) (hops : OpsIn w) :
    Calls Tryd.prog 4 #[.int .i64 9] w fun e w' => e = .returned (.bool true) ∧ Below w.heap.size w w' := by
  obtain ⟨m, hm, hmk⟩ := oddly_out oddP9
  have HM := Lib.hid hm
  have HMK := Lib.hid hmk
  have HOP := Lib.hid hops
  obtain ⟨w0, hw0⟩ : ∃ w0, w0 = ((w.alloc (.cells #[.string ⟨#[120, 59]⟩, .string ⟨#[120, 32, 43, 32, 49, 59]⟩, .string ⟨#[120, 46, 102, 32, 61, 32, 50, 59]⟩, .string ⟨#[120, 91, 49, 93, 32, 61, 32, 50, 59]⟩, .string ⟨#[102, 40, 41, 32, 61, 32, 50, 59]⟩, .string ⟨#[49, 32, 61, 32, 50, 59]⟩, .string ⟨#[102, 40, 49, 41, 59]⟩, .string ⟨#[40, 120, 41, 32, 61, 32, 49, 59]⟩, .string ⟨#[45, 120, 32, 61, 32, 49, 59]⟩, .string ⟨#[114, 101, 116, 117, 114, 110]⟩, .string ⟨#[114, 101, 116, 117, 114, 110, 59]⟩, .string ⟨#[114, 101, 116, 117, 114, 110, 32, 49, 59]⟩, .string ⟨#[108, 101, 116, 32, 120, 32, 61, 32, 49, 59]⟩, .string ⟨#[118, 97, 114, 32, 120, 58, 32, 91, 91, 105, 110, 116, 93, 93, 59]⟩, .string ⟨#[118, 97, 114, 32, 120, 58, 32, 91, 91, 91, 91, 105, 110, 116, 93, 93, 93, 93, 59]⟩, .string ⟨#[105, 102, 32, 98, 32, 123, 32, 125, 32, 101, 108, 115, 101, 32, 102, 40, 41, 59]⟩, .string ⟨#[112, 114, 105, 110, 116, 59]⟩, .string ⟨#[119, 104, 105, 108, 101, 32, 123, 32, 125]⟩, .string ⟨#[120, 32, 61, 32, 59]⟩, .string ⟨#[102, 40, 41, 46, 103, 32, 61, 32, 49, 59]⟩] 9)).alloc (.cells #[.int .i64 0, .int .i64 0, .int .i64 4, .int .i64 4, .int .i64 0, .int .i64 0, .int .i64 9, .int .i64 3, .int .i64 0, .int .i64 0, .int .i64 7, .int .i64 7, .int .i64 0, .int .i64 1, .int .i64 0, .int .i64 0, .int .i64 0, .int .i64 0, .int .i64 0, .int .i64 4] 3)).alloc (.cells #[.int .i64 1, .int .i64 5, .int .i64 0, .int .i64 0, .int .i64 4, .int .i64 2, .int .i64 0, .int .i64 0, .int .i64 3, .int .i64 6, .int .i64 0, .int .i64 0, .int .i64 6, .int .i64 0, .int .i64 10, .int .i64 14, .int .i64 5, .int .i64 6, .int .i64 4, .int .i64 0] 3) := ⟨_, rfl⟩
  have hb0 : Below w.heap.size w w0 := by rw [hw0]; exact (((Below.refl _ _).alloc (Nat.le_refl _) _).alloc (by simp only [size_alloc]; omega) _).alloc (by simp only [size_alloc]; omega) _
  have hkK : w0.heap[w.heap.size + 1]? = some (.cells #[.int .i64 0, .int .i64 0, .int .i64 4, .int .i64 4, .int .i64 0, .int .i64 0, .int .i64 9, .int .i64 3, .int .i64 0, .int .i64 0, .int .i64 7, .int .i64 7, .int .i64 0, .int .i64 1, .int .i64 0, .int .i64 0, .int .i64 0, .int .i64 0, .int .i64 0, .int .i64 4] 3 (0, 0)) := by rw [hw0]; have := heap_alloc_new (w.alloc (.cells #[.string ⟨#[120, 59]⟩, .string ⟨#[120, 32, 43, 32, 49, 59]⟩, .string ⟨#[120, 46, 102, 32, 61, 32, 50, 59]⟩, .string ⟨#[120, 91, 49, 93, 32, 61, 32, 50, 59]⟩, .string ⟨#[102, 40, 41, 32, 61, 32, 50, 59]⟩, .string ⟨#[49, 32, 61, 32, 50, 59]⟩, .string ⟨#[102, 40, 49, 41, 59]⟩, .string ⟨#[40, 120, 41, 32, 61, 32, 49, 59]⟩, .string ⟨#[45, 120, 32, 61, 32, 49, 59]⟩, .string ⟨#[114, 101, 116, 117, 114, 110]⟩, .string ⟨#[114, 101, 116, 117, 114, 110, 59]⟩, .string ⟨#[114, 101, 116, 117, 114, 110, 32, 49, 59]⟩, .string ⟨#[108, 101, 116, 32, 120, 32, 61, 32, 49, 59]⟩, .string ⟨#[118, 97, 114, 32, 120, 58, 32, 91, 91, 105, 110, 116, 93, 93, 59]⟩, .string ⟨#[118, 97, 114, 32, 120, 58, 32, 91, 91, 91, 91, 105, 110, 116, 93, 93, 93, 93, 59]⟩, .string ⟨#[105, 102, 32, 98, 32, 123, 32, 125, 32, 101, 108, 115, 101, 32, 102, 40, 41, 59]⟩, .string ⟨#[112, 114, 105, 110, 116, 59]⟩, .string ⟨#[119, 104, 105, 108, 101, 32, 123, 32, 125]⟩, .string ⟨#[120, 32, 61, 32, 59]⟩, .string ⟨#[102, 40, 41, 46, 103, 32, 61, 32, 49, 59]⟩] 9)) (.cells #[.int .i64 0, .int .i64 0, .int .i64 4, .int .i64 4, .int .i64 0, .int .i64 0, .int .i64 9, .int .i64 3, .int .i64 0, .int .i64 0, .int .i64 7, .int .i64 7, .int .i64 0, .int .i64 1, .int .i64 0, .int .i64 0, .int .i64 0, .int .i64 0, .int .i64 0, .int .i64 4] 3); rw [size_alloc] at this; exact alloc_box _ this
  have hkA : w0.heap[w.heap.size + 1 + 1]? = some (.cells #[.int .i64 1, .int .i64 5, .int .i64 0, .int .i64 0, .int .i64 4, .int .i64 2, .int .i64 0, .int .i64 0, .int .i64 3, .int .i64 6, .int .i64 0, .int .i64 0, .int .i64 6, .int .i64 0, .int .i64 10, .int .i64 14, .int .i64 5, .int .i64 6, .int .i64 4, .int .i64 0] 3 (0, 0)) := by rw [hw0]; have := heap_alloc_new ((w.alloc (.cells #[.string ⟨#[120, 59]⟩, .string ⟨#[120, 32, 43, 32, 49, 59]⟩, .string ⟨#[120, 46, 102, 32, 61, 32, 50, 59]⟩, .string ⟨#[120, 91, 49, 93, 32, 61, 32, 50, 59]⟩, .string ⟨#[102, 40, 41, 32, 61, 32, 50, 59]⟩, .string ⟨#[49, 32, 61, 32, 50, 59]⟩, .string ⟨#[102, 40, 49, 41, 59]⟩, .string ⟨#[40, 120, 41, 32, 61, 32, 49, 59]⟩, .string ⟨#[45, 120, 32, 61, 32, 49, 59]⟩, .string ⟨#[114, 101, 116, 117, 114, 110]⟩, .string ⟨#[114, 101, 116, 117, 114, 110, 59]⟩, .string ⟨#[114, 101, 116, 117, 114, 110, 32, 49, 59]⟩, .string ⟨#[108, 101, 116, 32, 120, 32, 61, 32, 49, 59]⟩, .string ⟨#[118, 97, 114, 32, 120, 58, 32, 91, 91, 105, 110, 116, 93, 93, 59]⟩, .string ⟨#[118, 97, 114, 32, 120, 58, 32, 91, 91, 91, 91, 105, 110, 116, 93, 93, 93, 93, 59]⟩, .string ⟨#[105, 102, 32, 98, 32, 123, 32, 125, 32, 101, 108, 115, 101, 32, 102, 40, 41, 59]⟩, .string ⟨#[112, 114, 105, 110, 116, 59]⟩, .string ⟨#[119, 104, 105, 108, 101, 32, 123, 32, 125]⟩, .string ⟨#[120, 32, 61, 32, 59]⟩, .string ⟨#[102, 40, 41, 46, 103, 32, 61, 32, 49, 59]⟩] 9)).alloc (.cells #[.int .i64 0, .int .i64 0, .int .i64 4, .int .i64 4, .int .i64 0, .int .i64 0, .int .i64 9, .int .i64 3, .int .i64 0, .int .i64 0, .int .i64 7, .int .i64 7, .int .i64 0, .int .i64 1, .int .i64 0, .int .i64 0, .int .i64 0, .int .i64 0, .int .i64 0, .int .i64 4] 3)) (.cells #[.int .i64 1, .int .i64 5, .int .i64 0, .int .i64 0, .int .i64 4, .int .i64 2, .int .i64 0, .int .i64 0, .int .i64 3, .int .i64 6, .int .i64 0, .int .i64 0, .int .i64 6, .int .i64 0, .int .i64 10, .int .i64 14, .int .i64 5, .int .i64 6, .int .i64 4, .int .i64 0] 3); simp only [size_alloc] at this; exact this
  have HKK := Lib.hid hkK
  have HKA := Lib.hid hkA
  have HB0 := Lib.hid hb0
  clear hm hmk hops hkK hkA hb0
  go_enter Tryd.func4, Tryd.ntmps4
  go_wp2_with fail
  rw [← hw0]
  clear hw0
  have htk := tokens_are ⟨#[114, 101, 116, 117, 114, 110]⟩ (by decide) oddU9 0 0 oddT9 w0
  rw [oddN9] at htk
  refine (htk).mono ?_
  clear htk
  rintro e w1 ⟨A, cA, rfl, hl1, hb1⟩
  have hbf : Below w1.heap.size w1 (w1.alloc (.cells #[.int .i64 0, .int .i64 0] 25)) := (Below.refl _ _).alloc (Nat.le_refl _) _
  have ht := (toks_of (c := cA) hl1 oddS9).below hbf
  rw [oddN9] at ht
  have HT := Lib.hid ht
  have hb01 := below_seq hb1 hbf hb1.size
  have HB1 := Lib.hid (below_seq HB0.out hb01 HB0.out.size)
  have HKK1 := Lib.hid ((hb01.block _ (heap_lt' HKK.out)).trans HKK.out)
  have HKA1 := Lib.hid ((hb01.block _ (heap_lt' HKA.out)).trans HKA.out)
  clear ht hl1 hb1 hbf hb01 HKK HKA
  go_wp2_with fail
  have hlen : (oddU9.map toRT).length ≤ 90000000 := by rw [List.length_map, oddN9]; decide
  refine (stParse_any _ _ _ (oddU9.map toRT) (pxBy oddU9 (10 * 2 + 20)) (pok_of hlen (pxBy_is oddN9 (by decide))) 0 0 HT.out (by obtain ⟨gt, gfr, hg⟩ := HOP.out; exact ⟨gt, gfr, (HB1.out.block _ (heap_lt' hg)).trans hg⟩) (10 * 2 + 20) (by decide) _ HM.out).mono ?_
  rintro e w3 ⟨sk, sn, so, sd, sep, sel, sec, sbp, sbl, sbc, slp, sll, slc, sa, sr, rfl, hs, hb3⟩
  have hsk := hs.kindM
  clear hsk
  have hKr := (hb3.block _ (heap_lt' HKK1.out)).trans HKK1.out
  have hK : w3.cell? ⟨w.heap.size + 1, 9, none⟩ = some (.int .i64 0) := by rw [cell_of_row _ _ _ _ _ _ hKr]; rfl
  have hKl := heap_lt' hKr
  have hAr := (hb3.block _ (heap_lt' HKA1.out)).trans HKA1.out
  have HA := Lib.hid hAr
  have HK := Lib.hid hK
  have HL3 := Lib.hid (heap_lt' hAr)
  have HB3 := Lib.hid (below_seq HB1.out hb3 HB1.out.size)
  clear hs hb3 hKr hAr HT HKK1 HKA1 hlen
  dsimp only
  have hKw : ((w3.alloc (.cells #[.int .i64 sk, .string (cbs sn), .string (cbs so), .int .i64 sd, .slice sep sel sec, .slice sbp sbl sbc, .slice slp sll slc, .int .i64 sa, .int .i64 sr] 33)).alloc (.cells #[.int .i64 2, .int .i64 6] 25)).cell? ⟨w.heap.size + 1, 9, none⟩ = some (.int .i64 0) :=
    ((((Below.refl _ _).alloc (Nat.le_refl _) _).alloc (by rw [size_alloc]; omega) _ : Below w3.heap.size w3 ((w3.alloc (.cells #[.int .i64 sk, .string (cbs sn), .string (cbs so), .int .i64 sd, .slice sep sel sec, .slice sbp sbl sbc, .slice slp sll slc, .int .i64 sa, .int .i64 sr] 33)).alloc (.cells #[.int .i64 2, .int .i64 6] 25))).cell (p := ⟨w.heap.size + 1, 9, none⟩) hKl).trans hK
  go_wp2_with fail
  clear hK hKw
  obtain ⟨wc, hwc⟩ : ∃ wc, wc = (w3.alloc (.cells #[.int .i64 sk, .string (cbs sn), .string (cbs so), .int .i64 sd, .slice sep sel sec, .slice sbp sbl sbc, .slice slp sll slc, .int .i64 sa, .int .i64 sr] 33)).alloc (.cells #[.int .i64 2, .int .i64 6] 25) := ⟨_, rfl⟩
  try rw [← hwc]
  have hb5 : Below w3.heap.size w3 wc := by rw [hwc]; exact ((Below.refl _ _).alloc (Nat.le_refl _) _).alloc (by rw [size_alloc]; omega) _
  have hS : wc.heap[w3.heap.size]? = some (.cells #[.int .i64 sk, .string (cbs sn), .string (cbs so), .int .i64 sd, .slice sep sel sec, .slice sbp sbl sbc, .slice slp sll slc, .int .i64 sa, .int .i64 sr] 33 (0, 0)) := by rw [hwc]; exact alloc_box _ (heap_alloc_new w3 _)
  have hG : wc.heap[w3.heap.size + 1]? = some (.cells #[.int .i64 2, .int .i64 6] 25 (0, 0)) := by rw [hwc]; have := heap_alloc_new (w3.alloc (.cells #[.int .i64 sk, .string (cbs sn), .string (cbs so), .int .i64 sd, .slice sep sel sec, .slice sbp sbl sbc, .slice slp sll slc, .int .i64 sa, .int .i64 sr] 33)) (.cells #[.int .i64 2, .int .i64 6] 25); rw [size_alloc] at this; exact this
  clear hwc
  have hK := (hb5.cell (p := ⟨w.heap.size + 1, 9, none⟩) hKl).trans HK.out
  have hA : wc.cell? ⟨w.heap.size + 1 + 1, 9, none⟩ = some (.int .i64 6) := by rw [cell_of_row _ _ _ _ _ _ ((hb5.block _ HL3.out).trans HA.out)]; rfl
  have HS0 : Hid (wc.cell? ⟨w3.heap.size + 1, 0, none⟩ = some (.int .i64 2) ∧ wc.cell? ⟨w3.heap.size + 1, 1, none⟩ = some (.int .i64 6) ∧ wc.cell? ⟨w.heap.size + 1 + 1, 9, none⟩ = some (.int .i64 6)) := Lib.hid ⟨(duo hG).1.1, (duo hG).1.2, hA⟩
  have HLT := Lib.hid (show w3.heap.size + 1 < wc.heap.size ∧ w3.heap.size + 1 < wc.heap.size ∧ w.heap.size + 1 + 1 < wc.heap.size from ⟨heap_lt' hG, heap_lt' hG, by have := HL3.out; have := hb5.size; omega⟩)
  have HW := Lib.hid (below_seq HB3.out hb5 HB3.out.size)
  clear hb5 hS hG hK hA hKl HK HA HB3 HB1 HB0
  have HKN := Lib.hid (known4_any wc.drew (by obtain ⟨gt, gfr, hg⟩ := HOP.out; exact ⟨gt, gfr, (HW.out.block _ (heap_lt' hg)).trans hg⟩))
  obtain ⟨e0, e1, e2⟩ := HS0.out
  have hq := eq_f2 2 6 2 6
  go_region_held3 (fun w' => w'.cell? ⟨w3.heap.size + 1, 0, none⟩ = some (.int .i64 2) ∧ w'.cell? ⟨w3.heap.size + 1, 1, none⟩ = some (.int .i64 6) ∧ w'.cell? ⟨w.heap.size + 1 + 1, 9, none⟩ = some (.int .i64 6)) (first | exact HS0.out | exact HS4.out) (first
    | (go_at_call 8; (with_reducible refine Calls.mono HKN.out ?_); rintro e w4 ⟨rfl, hb4⟩; have HB4 := Lib.hid (below_seq ((Below.refl wc.heap.size wc).drew) hb4 (Nat.le_refl _)); have HS4 : Hid (w4.cell? ⟨w3.heap.size + 1, 0, none⟩ = some (.int .i64 2) ∧ w4.cell? ⟨w3.heap.size + 1, 1, none⟩ = some (.int .i64 6) ∧ w4.cell? ⟨w.heap.size + 1 + 1, 9, none⟩ = some (.int .i64 6)) := Lib.hid ⟨(HB4.out.cell (p := ⟨w3.heap.size + 1, 0, none⟩) HLT.out.1).trans HS0.out.1, (HB4.out.cell (p := ⟨w3.heap.size + 1, 1, none⟩) HLT.out.2.1).trans HS0.out.2.1, (HB4.out.cell (p := ⟨w.heap.size + 1 + 1, 9, none⟩) HLT.out.2.2).trans HS0.out.2.2⟩; clear hb4 HKN))
  go_wp2_with fail
  go_ret
  exact ⟨rfl, below_seq HW.out HB4.out HW.out.size⟩

def oddU10 : List Ln.Lx.Tk := (Ln.Lx.toks [114, 101, 116, 117, 114, 110, 59]).1
set_option maxRecDepth 40000 in
theorem oddT10 : Ln.Lx.toks [114, 101, 116, 117, 114, 110, 59] = (oddU10, 0, 0) := by kernel_rfl
theorem oddN10 : oddU10.length = 3 := by kernel_rfl
set_option maxRecDepth 40000 in
theorem oddP10 : oddly oddU10 3 = some (7, 2, 0, 0) := by kernel_rfl
theorem oddS10 : ∀ t ∈ oddU10, t.text.length ≤ 281474976710656 := by
  have h : (oddU10.all fun t => decide (t.text.length ≤ 281474976710656)) = true := by kernel_rfl
  exact fun t ht => of_decide_eq_true (List.all_eq_true.1 h t ht)

set_option maxRecDepth 40000 in
set_option maxHeartbeats 8000000 in
theorem odd4_10 (w : World) (hops : OpsIn w) :
    Calls Tryd.prog 4 #[.int .i64 10] w fun e w' => e = .returned (.bool true) ∧ Below w.heap.size w w' := by
  obtain ⟨m, hm, hmk⟩ := oddly_out oddP10
  have HM := Lib.hid hm
  have HMK := Lib.hid hmk
  have HOP := Lib.hid hops
  obtain ⟨w0, hw0⟩ : ∃ w0, w0 = ((w.alloc (.cells #[.string ⟨#[120, 59]⟩, .string ⟨#[120, 32, 43, 32, 49, 59]⟩, .string ⟨#[120, 46, 102, 32, 61, 32, 50, 59]⟩, .string ⟨#[120, 91, 49, 93, 32, 61, 32, 50, 59]⟩, .string ⟨#[102, 40, 41, 32, 61, 32, 50, 59]⟩, .string ⟨#[49, 32, 61, 32, 50, 59]⟩, .string ⟨#[102, 40, 49, 41, 59]⟩, .string ⟨#[40, 120, 41, 32, 61, 32, 49, 59]⟩, .string ⟨#[45, 120, 32, 61, 32, 49, 59]⟩, .string ⟨#[114, 101, 116, 117, 114, 110]⟩, .string ⟨#[114, 101, 116, 117, 114, 110, 59]⟩, .string ⟨#[114, 101, 116, 117, 114, 110, 32, 49, 59]⟩, .string ⟨#[108, 101, 116, 32, 120, 32, 61, 32, 49, 59]⟩, .string ⟨#[118, 97, 114, 32, 120, 58, 32, 91, 91, 105, 110, 116, 93, 93, 59]⟩, .string ⟨#[118, 97, 114, 32, 120, 58, 32, 91, 91, 91, 91, 105, 110, 116, 93, 93, 93, 93, 59]⟩, .string ⟨#[105, 102, 32, 98, 32, 123, 32, 125, 32, 101, 108, 115, 101, 32, 102, 40, 41, 59]⟩, .string ⟨#[112, 114, 105, 110, 116, 59]⟩, .string ⟨#[119, 104, 105, 108, 101, 32, 123, 32, 125]⟩, .string ⟨#[120, 32, 61, 32, 59]⟩, .string ⟨#[102, 40, 41, 46, 103, 32, 61, 32, 49, 59]⟩] 9)).alloc (.cells #[.int .i64 0, .int .i64 0, .int .i64 4, .int .i64 4, .int .i64 0, .int .i64 0, .int .i64 9, .int .i64 3, .int .i64 0, .int .i64 0, .int .i64 7, .int .i64 7, .int .i64 0, .int .i64 1, .int .i64 0, .int .i64 0, .int .i64 0, .int .i64 0, .int .i64 0, .int .i64 4] 3)).alloc (.cells #[.int .i64 1, .int .i64 5, .int .i64 0, .int .i64 0, .int .i64 4, .int .i64 2, .int .i64 0, .int .i64 0, .int .i64 3, .int .i64 6, .int .i64 0, .int .i64 0, .int .i64 6, .int .i64 0, .int .i64 10, .int .i64 14, .int .i64 5, .int .i64 6, .int .i64 4, .int .i64 0] 3) := ⟨_, rfl⟩
  have hb0 : Below w.heap.size w w0 := by rw [hw0]; exact (((Below.refl _ _).alloc (Nat.le_refl _) _).alloc (by simp only [size_alloc]; omega) _).alloc (by simp only [size_alloc]; omega) _
  have hkK : w0.heap[w.heap.size + 1]? = some (.cells #[.int .i64 0, .int .i64 0, .int .i64 4, .int .i64 4, .int .i64 0, .int .i64 0, .int .i64 9, .int .i64 3, .int .i64 0, .int .i64 0, .int .i64 7, .int .i64 7, .int .i64 0, .int .i64 1, .int .i64 0, .int .i64 0, .int .i64 0, .int .i64 0, .int .i64 0, .int .i64 4] 3 (0, 0)) := by rw [hw0]; have := heap_alloc_new (w.alloc (.cells #[.string ⟨#[120, 59]⟩, .string ⟨#[120, 32, 43, 32, 49, 59]⟩, .string ⟨#[120, 46, 102, 32, 61, 32, 50, 59]⟩, .string ⟨#[120, 91, 49, 93, 32, 61, 32, 50, 59]⟩, .string ⟨#[102, 40, 41, 32, 61, 32, 50, 59]⟩, .string ⟨#[49, 32, 61, 32, 50, 59]⟩, .string ⟨#[102, 40, 49, 41, 59]⟩, .string ⟨#[40, 120, 41, 32, 61, 32, 49, 59]⟩, .string ⟨#[45, 120, 32, 61, 32, 49, 59]⟩, .string ⟨#[114, 101, 116, 117, 114, 110]⟩, .string ⟨#[114, 101, 116, 117, 114, 110, 59]⟩, .string ⟨#[114, 101, 116, 117, 114, 110, 32, 49, 59]⟩, .string ⟨#[108, 101, 116, 32, 120, 32, 61, 32, 49, 59]⟩, .string ⟨#[118, 97, 114, 32, 120, 58, 32, 91, 91, 105, 110, 116, 93, 93, 59]⟩, .string ⟨#[118, 97, 114, 32, 120, 58, 32, 91, 91, 91, 91, 105, 110, 116, 93, 93, 93, 93, 59]⟩, .string ⟨#[105, 102, 32, 98, 32, 123, 32, 125, 32, 101, 108, 115, 101, 32, 102, 40, 41, 59]⟩, .string ⟨#[112, 114, 105, 110, 116, 59]⟩, .string ⟨#[119, 104, 105, 108, 101, 32, 123, 32, 125]⟩, .string ⟨#[120, 32, 61, 32, 59]⟩, .string ⟨#[102, 40, 41, 46, 103, 32, 61, 32, 49, 59]⟩] 9)) (.cells #[.int .i64 0, .int .i64 0, .int .i64 4, .int .i64 4, .int .i64 0, .int .i64 0, .int .i64 9, .int .i64 3, .int .i64 0, .int .i64 0, .int .i64 7, .int .i64 7, .int .i64 0, .int .i64 1, .int .i64 0, .int .i64 0, .int .i64 0, .int .i64 0, .int .i64 0, .int .i64 4] 3); rw [size_alloc] at this; exact alloc_box _ this
  have hkA : w0.heap[w.heap.size + 1 + 1]? = some (.cells #[.int .i64 1, .int .i64 5, .int .i64 0, .int .i64 0, .int .i64 4, .int .i64 2, .int .i64 0, .int .i64 0, .int .i64 3, .int .i64 6, .int .i64 0, .int .i64 0, .int .i64 6, .int .i64 0, .int .i64 10, .int .i64 14, .int .i64 5, .int .i64 6, .int .i64 4, .int .i64 0] 3 (0, 0)) := by rw [hw0]; have := heap_alloc_new ((w.alloc (.cells #[.string ⟨#[120, 59]⟩, .string ⟨#[120, 32, 43, 32, 49, 59]⟩, .string ⟨#[120, 46, 102, 32, 61, 32, 50, 59]⟩, .string ⟨#[120, 91, 49, 93, 32, 61, 32, 50, 59]⟩, .string ⟨#[102, 40, 41, 32, 61, 32, 50, 59]⟩, .string ⟨#[49, 32, 61, 32, 50, 59]⟩, .string ⟨#[102, 40, 49, 41, 59]⟩, .string ⟨#[40, 120, 41, 32, 61, 32, 49, 59]⟩, .string ⟨#[45, 120, 32, 61, 32, 49, 59]⟩, .string ⟨#[114, 101, 116, 117, 114, 110]⟩, .string ⟨#[114, 101, 116, 117, 114, 110, 59]⟩, .string ⟨#[114, 101, 116, 117, 114, 110, 32, 49, 59]⟩, .string ⟨#[108, 101, 116, 32, 120, 32, 61, 32, 49, 59]⟩, .string ⟨#[118, 97, 114, 32, 120, 58, 32, 91, 91, 105, 110, 116, 93, 93, 59]⟩, .string ⟨#[118, 97, 114, 32, 120, 58, 32, 91, 91, 91, 91, 105, 110, 116, 93, 93, 93, 93, 59]⟩, .string ⟨#[105, 102, 32, 98, 32, 123, 32, 125, 32, 101, 108, 115, 101, 32, 102, 40, 41, 59]⟩, .string ⟨#[112, 114, 105, 110, 116, 59]⟩, .string ⟨#[119, 104, 105, 108, 101, 32, 123, 32, 125]⟩, .string ⟨#[120, 32, 61, 32, 59]⟩, .string ⟨#[102, 40, 41, 46, 103, 32, 61, 32, 49, 59]⟩] 9)).alloc (.cells #[.int .i64 0, .int .i64 0, .int .i64 4, .int .i64 4, .int .i64 0, .int .i64 0, .int .i64 9, .int .i64 3, .int .i64 0, .int .i64 0, .int .i64 7, .int .i64 7, .int .i64 0, .int .i64 1, .int .i64 0, .int .i64 0, .int .i64 0, .int .i64 0, .int .i64 0, .int .i64 4] 3)) (.cells #[.int .i64 1, .int .i64 5, .int .i64 0, .int .i64 0, .int .i64 4, .int .i64 2, .int .i64 0, .int .i64 0, .int .i64 3, .int .i64 6, .int .i64 0, .int .i64 0, .int .i64 6, .int .i64 0, .int .i64 10, .int .i64 14, .int .i64 5, .int .i64 6, .int .i64 4, .int .i64 0] 3); simp only [size_alloc] at this; exact this
  have HKK := Lib.hid hkK
  have HKA := Lib.hid hkA
  have HB0 := Lib.hid hb0
  clear hm hmk hops hkK hkA hb0
  go_enter Tryd.func4, Tryd.ntmps4
  go_wp2_with fail
  rw [← hw0]
  clear hw0
  have htk := tokens_are ⟨#[114, 101, 116, 117, 114, 110, 59]⟩ (by decide) oddU10 0 0 oddT10 w0
  rw [oddN10] at htk
  refine (htk).mono ?_
  clear htk
  rintro e w1 ⟨A, cA, rfl, hl1, hb1⟩
  have hbf : Below w1.heap.size w1 (w1.alloc (.cells #[.int .i64 0, .int .i64 0] 25)) := (Below.refl _ _).alloc (Nat.le_refl _) _
  have ht := (toks_of (c := cA) hl1 oddS10).below hbf
  rw [oddN10] at ht
  have HT := Lib.hid ht
  have hb01 := below_seq hb1 hbf hb1.size
  have HB1 := Lib.hid (below_seq HB0.out hb01 HB0.out.size)
  have HKK1 := Lib.hid ((hb01.block _ (heap_lt' HKK.out)).trans HKK.out)
  have HKA1 := Lib.hid ((hb01.block _ (heap_lt' HKA.out)).trans HKA.out)
  clear ht hl1 hb1 hbf hb01 HKK HKA
  go_wp2_with fail
  have hlen : (oddU10.map toRT).length ≤ 90000000 := by rw [List.length_map, oddN10]; decide
  refine (stParse_any _ _ _ (oddU10.map toRT) (pxBy oddU10 (10 * 3 + 20)) (pok_of hlen (pxBy_is oddN10 (by decide))) 0 0 HT.out (by obtain ⟨gt, gfr, hg⟩ := HOP.out; exact ⟨gt, gfr, (HB1.out.block _ (heap_lt' hg)).trans hg⟩) (10 * 3 + 20) (by decide) _ HM.out).mono ?_
  rintro e w3 ⟨sk, sn, so, sd, sep, sel, sec, sbp, sbl, sbc, slp, sll, slc, sa, sr, rfl, hs, hb3⟩
  have hsk := hs.kindM
  rw [HMK.out] at hsk
  subst hsk
  have hKr := (hb3.block _ (heap_lt' HKK1.out)).trans HKK1.out
  have hK : w3.cell? ⟨w.heap.size + 1, 10, none⟩ = some (.int .i64 7) := by rw [cell_of_row _ _ _ _ _ _ hKr]; rfl
  have hKl := heap_lt' hKr
  have hAr := (hb3.block _ (heap_lt' HKA1.out)).trans HKA1.out
  have HA := Lib.hid hAr
  have HK := Lib.hid hK
  have HL3 := Lib.hid (heap_lt' hAr)
  have HB3 := Lib.hid (below_seq HB1.out hb3 HB1.out.size)
  clear hs hb3 hKr hAr HT HKK1 HKA1 hlen
  dsimp only
  have hKw : ((w3.alloc (.cells #[.int .i64 7, .string (cbs sn), .string (cbs so), .int .i64 sd, .slice sep sel sec, .slice sbp sbl sbc, .slice slp sll slc, .int .i64 sa, .int .i64 sr] 33)).alloc (.cells #[.int .i64 0, .int .i64 0] 25)).cell? ⟨w.heap.size + 1, 10, none⟩ = some (.int .i64 7) :=
    ((((Below.refl _ _).alloc (Nat.le_refl _) _).alloc (by rw [size_alloc]; omega) _ : Below w3.heap.size w3 ((w3.alloc (.cells #[.int .i64 7, .string (cbs sn), .string (cbs so), .int .i64 sd, .slice sep sel sec, .slice sbp sbl sbc, .slice slp sll slc, .int .i64 sa, .int .i64 sr] 33)).alloc (.cells #[.int .i64 0, .int .i64 0] 25))).cell (p := ⟨w.heap.size + 1, 10, none⟩) hKl).trans hK
  go_wp2_with fail
  clear hK hKw
  obtain ⟨wc, hwc⟩ : ∃ wc, wc = (w3.alloc (.cells #[.int .i64 7, .string (cbs sn), .string (cbs so), .int .i64 sd, .slice sep sel sec, .slice sbp sbl sbc, .slice slp sll slc, .int .i64 sa, .int .i64 sr] 33)).alloc (.cells #[.int .i64 0, .int .i64 0] 25) := ⟨_, rfl⟩
  try rw [← hwc]
  have hb5 : Below w3.heap.size w3 wc := by rw [hwc]; exact ((Below.refl _ _).alloc (Nat.le_refl _) _).alloc (by rw [size_alloc]; omega) _
  have hS : wc.heap[w3.heap.size]? = some (.cells #[.int .i64 7, .string (cbs sn), .string (cbs so), .int .i64 sd, .slice sep sel sec, .slice sbp sbl sbc, .slice slp sll slc, .int .i64 sa, .int .i64 sr] 33 (0, 0)) := by rw [hwc]; exact alloc_box _ (heap_alloc_new w3 _)
  have hG : wc.heap[w3.heap.size + 1]? = some (.cells #[.int .i64 0, .int .i64 0] 25 (0, 0)) := by rw [hwc]; have := heap_alloc_new (w3.alloc (.cells #[.int .i64 7, .string (cbs sn), .string (cbs so), .int .i64 sd, .slice sep sel sec, .slice sbp sbl sbc, .slice slp sll slc, .int .i64 sa, .int .i64 sr] 33)) (.cells #[.int .i64 0, .int .i64 0] 25); rw [size_alloc] at this; exact this
  clear hwc
  have hK := (hb5.cell (p := ⟨w.heap.size + 1, 10, none⟩) hKl).trans HK.out
  have hA : wc.cell? ⟨w.heap.size + 1 + 1, 10, none⟩ = some (.int .i64 0) := by rw [cell_of_row _ _ _ _ _ _ ((hb5.block _ HL3.out).trans HA.out)]; rfl
  have HS0 : Hid (wc.cell? ⟨w3.heap.size + 1, 0, none⟩ = some (.int .i64 0) ∧ wc.cell? ⟨w3.heap.size, 0, none⟩ = some (.int .i64 7) ∧ wc.cell? ⟨w.heap.size + 1, 10, none⟩ = some (.int .i64 7)) := Lib.hid ⟨(duo hG).1.1, (nen hS).1.1, hK⟩
  have HLT := Lib.hid (show w3.heap.size + 1 < wc.heap.size ∧ w3.heap.size < wc.heap.size ∧ w.heap.size + 1 < wc.heap.size from ⟨heap_lt' hG, heap_lt' hS, by have := HL3.out; have := hb5.size; omega⟩)
  have HW := Lib.hid (below_seq HB3.out hb5 HB3.out.size)
  clear hb5 hS hG hK hA hKl HK HA HB3 HB1 HB0
  have HKN := Lib.hid (known4_any wc.drew (by obtain ⟨gt, gfr, hg⟩ := HOP.out; exact ⟨gt, gfr, (HW.out.block _ (heap_lt' hg)).trans hg⟩))
  obtain ⟨e0, e1, e2⟩ := HS0.out
  have hwr : IntKind.i64.wrap (2 : Int) = 2 := by decide
  go_region_held3 (fun w' => w'.cell? ⟨w3.heap.size + 1, 0, none⟩ = some (.int .i64 0) ∧ w'.cell? ⟨w3.heap.size, 0, none⟩ = some (.int .i64 7) ∧ w'.cell? ⟨w.heap.size + 1, 10, none⟩ = some (.int .i64 7)) (first | exact HS0.out | exact HS4.out) (first
    | (go_at_call 8; (with_reducible refine Calls.mono HKN.out ?_); rintro e w4 ⟨rfl, hb4⟩; have HB4 := Lib.hid (below_seq ((Below.refl wc.heap.size wc).drew) hb4 (Nat.le_refl _)); have HS4 : Hid (w4.cell? ⟨w3.heap.size + 1, 0, none⟩ = some (.int .i64 0) ∧ w4.cell? ⟨w3.heap.size, 0, none⟩ = some (.int .i64 7) ∧ w4.cell? ⟨w.heap.size + 1, 10, none⟩ = some (.int .i64 7)) := Lib.hid ⟨(HB4.out.cell (p := ⟨w3.heap.size + 1, 0, none⟩) HLT.out.1).trans HS0.out.1, (HB4.out.cell (p := ⟨w3.heap.size, 0, none⟩) HLT.out.2.1).trans HS0.out.2.1, (HB4.out.cell (p := ⟨w.heap.size + 1, 10, none⟩) HLT.out.2.2).trans HS0.out.2.2⟩; clear hb4 HKN))
  go_wp2_with fail
  go_ret
  exact ⟨rfl, below_seq HW.out HB4.out HW.out.size⟩

def oddU11 : List Ln.Lx.Tk := (Ln.Lx.toks [114, 101, 116, 117, 114, 110, 32, 49, 59]).1
set_option maxRecDepth 40000 in
theorem oddT11 : Ln.Lx.toks [114, 101, 116, 117, 114, 110, 32, 49, 59] = (oddU11, 0, 0) := by kernel_rfl
theorem oddN11 : oddU11.length = 4 := by kernel_rfl
set_option maxRecDepth 40000 in
theorem oddP11 : oddly oddU11 4 = some (7, 3, 0, 0) := by kernel_rfl
theorem oddS11 : ∀ t ∈ oddU11, t.text.length ≤ 281474976710656 := by
  have h : (oddU11.all fun t => decide (t.text.length ≤ 281474976710656)) = true := by kernel_rfl
  exact fun t ht => of_decide_eq_true (List.all_eq_true.1 h t ht)

set_option maxRecDepth 40000 in
set_option maxHeartbeats 8000000 in
theorem odd4_11 (w : World) (hops : OpsIn w) :
    Calls Tryd.prog 4 #[.int .i64 11] w fun e w' => e = .returned (.bool true) ∧ Below w.heap.size w w' := by
  obtain ⟨m, hm, hmk⟩ := oddly_out oddP11
  have HM := Lib.hid hm
  have HMK := Lib.hid hmk
  have HOP := Lib.hid hops
  obtain ⟨w0, hw0⟩ : ∃ w0, w0 = ((w.alloc (.cells #[.string ⟨#[120, 59]⟩, .string ⟨#[120, 32, 43, 32, 49, 59]⟩, .string ⟨#[120, 46, 102, 32, 61, 32, 50, 59]⟩, .string ⟨#[120, 91, 49, 93, 32, 61, 32, 50, 59]⟩, .string ⟨#[102, 40, 41, 32, 61, 32, 50, 59]⟩, .string ⟨#[49, 32, 61, 32, 50, 59]⟩, .string ⟨#[102, 40, 49, 41, 59]⟩, .string ⟨#[40, 120, 41, 32, 61, 32, 49, 59]⟩, .string ⟨#[45, 120, 32, 61, 32, 49, 59]⟩, .string ⟨#[114, 101, 116, 117, 114, 110]⟩, .string ⟨#[114, 101, 116, 117, 114, 110, 59]⟩, .string ⟨#[114, 101, 116, 117, 114, 110, 32, 49, 59]⟩, .string ⟨#[108, 101, 116, 32, 120, 32, 61, 32, 49, 59]⟩, .string ⟨#[118, 97, 114, 32, 120, 58, 32, 91, 91, 105, 110, 116, 93, 93, 59]⟩, .string ⟨#[118, 97, 114, 32, 120, 58, 32, 91, 91, 91, 91, 105, 110, 116, 93, 93, 93, 93, 59]⟩, .string ⟨#[105, 102, 32, 98, 32, 123, 32, 125, 32, 101, 108, 115, 101, 32, 102, 40, 41, 59]⟩, .string ⟨#[112, 114, 105, 110, 116, 59]⟩, .string ⟨#[119, 104, 105, 108, 101, 32, 123, 32, 125]⟩, .string ⟨#[120, 32, 61, 32, 59]⟩, .string ⟨#[102, 40, 41, 46, 103, 32, 61, 32, 49, 59]⟩] 9)).alloc (.cells #[.int .i64 0, .int .i64 0, .int .i64 4, .int .i64 4, .int .i64 0, .int .i64 0, .int .i64 9, .int .i64 3, .int .i64 0, .int .i64 0, .int .i64 7, .int .i64 7, .int .i64 0, .int .i64 1, .int .i64 0, .int .i64 0, .int .i64 0, .int .i64 0, .int .i64 0, .int .i64 4] 3)).alloc (.cells #[.int .i64 1, .int .i64 5, .int .i64 0, .int .i64 0, .int .i64 4, .int .i64 2, .int .i64 0, .int .i64 0, .int .i64 3, .int .i64 6, .int .i64 0, .int .i64 0, .int .i64 6, .int .i64 0, .int .i64 10, .int .i64 14, .int .i64 5, .int .i64 6, .int .i64 4, .int .i64 0] 3) := ⟨_, rfl⟩
  have hb0 : Below w.heap.size w w0 := by rw [hw0]; exact (((Below.refl _ _).alloc (Nat.le_refl _) _).alloc (by simp only [size_alloc]; omega) _).alloc (by simp only [size_alloc]; omega) _
  have hkK : w0.heap[w.heap.size + 1]? = some (.cells #[.int .i64 0, .int .i64 0, .int .i64 4, .int .i64 4, .int .i64 0, .int .i64 0, .int .i64 9, .int .i64 3, .int .i64 0, .int .i64 0, .int .i64 7, .int .i64 7, .int .i64 0, .int .i64 1, .int .i64 0, .int .i64 0, .int .i64 0, .int .i64 0, .int .i64 0, .int .i64 4] 3 (0, 0)) := by rw [hw0]; have := heap_alloc_new (w.alloc (.cells #[.string ⟨#[120, 59]⟩, .string ⟨#[120, 32, 43, 32, 49, 59]⟩, .string ⟨#[120, 46, 102, 32, 61, 32, 50, 59]⟩, .string ⟨#[120, 91, 49, 93, 32, 61, 32, 50, 59]⟩, .string ⟨#[102, 40, 41, 32, 61, 32, 50, 59]⟩, .string ⟨#[49, 32, 61, 32, 50, 59]⟩, .string ⟨#[102, 40, 49, 41, 59]⟩, .string ⟨#[40, 120, 41, 32, 61, 32, 49, 59]⟩, .string ⟨#[45, 120, 32, 61, 32, 49, 59]⟩, .string ⟨#[114, 101, 116, 117, 114, 110]⟩, .string ⟨#[114, 101, 116, 117, 114, 110, 59]⟩, .string ⟨#[114, 101, 116, 117, 114, 110, 32, 49, 59]⟩, .string ⟨#[108, 101, 116, 32, 120, 32, 61, 32, 49, 59]⟩, .string ⟨#[118, 97, 114, 32, 120, 58, 32, 91, 91, 105, 110, 116, 93, 93, 59]⟩, .string ⟨#[118, 97, 114, 32, 120, 58, 32, 91, 91, 91, 91, 105, 110, 116, 93, 93, 93, 93, 59]⟩, .string ⟨#[105, 102, 32, 98, 32, 123, 32, 125, 32, 101, 108, 115, 101, 32, 102, 40, 41, 59]⟩, .string ⟨#[112, 114, 105, 110, 116, 59]⟩, .string ⟨#[119, 104, 105, 108, 101, 32, 123, 32, 125]⟩, .string ⟨#[120, 32, 61, 32, 59]⟩, .string ⟨#[102, 40, 41, 46, 103, 32, 61, 32, 49, 59]⟩] 9)) (.cells #[.int .i64 0, .int .i64 0, .int .i64 4, .int .i64 4, .int .i64 0, .int .i64 0, .int .i64 9, .int .i64 3, .int .i64 0, .int .i64 0, .int .i64 7, .int .i64 7, .int .i64 0, .int .i64 1, .int .i64 0, .int .i64 0, .int .i64 0, .int .i64 0, .int .i64 0, .int .i64 4] 3); rw [size_alloc] at this; exact alloc_box _ this
  have hkA : w0.heap[w.heap.size + 1 + 1]? = some (.cells #[.int .i64 1, .int .i64 5, .int .i64 0, .int .i64 0, .int .i64 4, .int .i64 2, .int .i64 0, .int .i64 0, .int .i64 3, .int .i64 6, .int .i64 0, .int .i64 0, .int .i64 6, .int .i64 0, .int .i64 10, .int .i64 14, .int .i64 5, .int .i64 6, .int .i64 4, .int .i64 0] 3 (0, 0)) := by rw [hw0]; have := heap_alloc_new ((w.alloc (.cells #[.string ⟨#[120, 59]⟩, .string ⟨#[120, 32, 43, 32, 49, 59]⟩, .string ⟨#[120, 46, 102, 32, 61, 32, 50, 59]⟩, .string ⟨#[120, 91, 49, 93, 32, 61, 32, 50, 59]⟩, .string ⟨#[102, 40, 41, 32, 61, 32, 50, 59]⟩, .string ⟨#[49, 32, 61, 32, 50, 59]⟩, .string ⟨#[102, 40, 49, 41, 59]⟩, .string ⟨#[40, 120, 41, 32, 61, 32, 49, 59]⟩, .string ⟨#[45, 120, 32, 61, 32, 49, 59]⟩, .string ⟨#[114, 101, 116, 117, 114, 110]⟩, .string ⟨#[114, 101, 116, 117, 114, 110, 59]⟩, .string ⟨#[114, 101, 116, 117, 114, 110, 32, 49, 59]⟩, .string ⟨#[108, 101, 116, 32, 120, 32, 61, 32, 49, 59]⟩, .string ⟨#[118, 97, 114, 32, 120, 58, 32, 91, 91, 105, 110, 116, 93, 93, 59]⟩, .string ⟨#[118, 97, 114, 32, 120, 58, 32, 91, 91, 91, 91, 105, 110, 116, 93, 93, 93, 93, 59]⟩, .string ⟨#[105, 102, 32, 98, 32, 123, 32, 125, 32, 101, 108, 115, 101, 32, 102, 40, 41, 59]⟩, .string ⟨#[112, 114, 105, 110, 116, 59]⟩, .string ⟨#[119, 104, 105, 108, 101, 32, 123, 32, 125]⟩, .string ⟨#[120, 32, 61, 32, 59]⟩, .string ⟨#[102, 40, 41, 46, 103, 32, 61, 32, 49, 59]⟩] 9)).alloc (.cells #[.int .i64 0, .int .i64 0, .int .i64 4, .int .i64 4, .int .i64 0, .int .i64 0, .int .i64 9, .int .i64 3, .int .i64 0, .int .i64 0, .int .i64 7, .int .i64 7, .int .i64 0, .int .i64 1, .int .i64 0, .int .i64 0, .int .i64 0, .int .i64 0, .int .i64 0, .int .i64 4] 3)) (.cells #[.int .i64 1, .int .i64 5, .int .i64 0, .int .i64 0, .int .i64 4, .int .i64 2, .int .i64 0, .int .i64 0, .int .i64 3, .int .i64 6, .int .i64 0, .int .i64 0, .int .i64 6, .int .i64 0, .int .i64 10, .int .i64 14, .int .i64 5, .int .i64 6, .int .i64 4, .int .i64 0] 3); simp only [size_alloc] at this; exact this
  have HKK := Lib.hid hkK
  have HKA := Lib.hid hkA
  have HB0 := Lib.hid hb0
  clear hm hmk hops hkK hkA hb0
  go_enter Tryd.func4, Tryd.ntmps4
  go_wp2_with fail
  rw [← hw0]
  clear hw0
  have htk := tokens_are ⟨#[114, 101, 116, 117, 114, 110, 32, 49, 59]⟩ (by decide) oddU11 0 0 oddT11 w0
  rw [oddN11] at htk
  refine (htk).mono ?_
  clear htk
  rintro e w1 ⟨A, cA, rfl, hl1, hb1⟩
  have hbf : Below w1.heap.size w1 (w1.alloc (.cells #[.int .i64 0, .int .i64 0] 25)) := (Below.refl _ _).alloc (Nat.le_refl _) _
  have ht := (toks_of (c := cA) hl1 oddS11).below hbf
  rw [oddN11] at ht
  have HT := Lib.hid ht
  have hb01 := below_seq hb1 hbf hb1.size
  have HB1 := Lib.hid (below_seq HB0.out hb01 HB0.out.size)
  have HKK1 := Lib.hid ((hb01.block _ (heap_lt' HKK.out)).trans HKK.out)
  have HKA1 := Lib.hid ((hb01.block _ (heap_lt' HKA.out)).trans HKA.out)
  clear ht hl1 hb1 hbf hb01 HKK HKA
  go_wp2_with fail
  have hlen : (oddU11.map toRT).length ≤ 90000000 := by rw [List.length_map, oddN11]; decide
  refine (stParse_any _ _ _ (oddU11.map toRT) (pxBy oddU11 (10 * 4 + 20)) (pok_of hlen (pxBy_is oddN11 (by decide))) 0 0 HT.out (by obtain ⟨gt, gfr, hg⟩ := HOP.out; exact ⟨gt, gfr, (HB1.out.block _ (heap_lt' hg)).trans hg⟩) (10 * 4 + 20) (by decide) _ HM.out).mono ?_
  rintro e w3 ⟨sk, sn, so, sd, sep, sel, sec, sbp, sbl, sbc, slp, sll, slc, sa, sr, rfl, hs, hb3⟩
  have hsk := hs.kindM
  rw [HMK.out] at hsk
  subst hsk
  have hKr := (hb3.block _ (heap_lt' HKK1.out)).trans HKK1.out
  have hK : w3.cell? ⟨w.heap.size + 1, 11, none⟩ = some (.int .i64 7) := by rw [cell_of_row _ _ _ _ _ _ hKr]; rfl
  have hKl := heap_lt' hKr
  have hAr := (hb3.block _ (heap_lt' HKA1.out)).trans HKA1.out
  have HA := Lib.hid hAr
  have HK := Lib.hid hK
  have HL3 := Lib.hid (heap_lt' hAr)
  have HB3 := Lib.hid (below_seq HB1.out hb3 HB1.out.size)
  clear hs hb3 hKr hAr HT HKK1 HKA1 hlen
  dsimp only
  have hKw : ((w3.alloc (.cells #[.int .i64 7, .string (cbs sn), .string (cbs so), .int .i64 sd, .slice sep sel sec, .slice sbp sbl sbc, .slice slp sll slc, .int .i64 sa, .int .i64 sr] 33)).alloc (.cells #[.int .i64 0, .int .i64 0] 25)).cell? ⟨w.heap.size + 1, 11, none⟩ = some (.int .i64 7) :=
    ((((Below.refl _ _).alloc (Nat.le_refl _) _).alloc (by rw [size_alloc]; omega) _ : Below w3.heap.size w3 ((w3.alloc (.cells #[.int .i64 7, .string (cbs sn), .string (cbs so), .int .i64 sd, .slice sep sel sec, .slice sbp sbl sbc, .slice slp sll slc, .int .i64 sa, .int .i64 sr] 33)).alloc (.cells #[.int .i64 0, .int .i64 0] 25))).cell (p := ⟨w.heap.size + 1, 11, none⟩) hKl).trans hK
  go_wp2_with fail
  clear hK hKw
  obtain ⟨wc, hwc⟩ : ∃ wc, wc = (w3.alloc (.cells #[.int .i64 7, .string (cbs sn), .string (cbs so), .int .i64 sd, .slice sep sel sec, .slice sbp sbl sbc, .slice slp sll slc, .int .i64 sa, .int .i64 sr] 33)).alloc (.cells #[.int .i64 0, .int .i64 0] 25) := ⟨_, rfl⟩
  try rw [← hwc]
  have hb5 : Below w3.heap.size w3 wc := by rw [hwc]; exact ((Below.refl _ _).alloc (Nat.le_refl _) _).alloc (by rw [size_alloc]; omega) _
  have hS : wc.heap[w3.heap.size]? = some (.cells #[.int .i64 7, .string (cbs sn), .string (cbs so), .int .i64 sd, .slice sep sel sec, .slice sbp sbl sbc, .slice slp sll slc, .int .i64 sa, .int .i64 sr] 33 (0, 0)) := by rw [hwc]; exact alloc_box _ (heap_alloc_new w3 _)
  have hG : wc.heap[w3.heap.size + 1]? = some (.cells #[.int .i64 0, .int .i64 0] 25 (0, 0)) := by rw [hwc]; have := heap_alloc_new (w3.alloc (.cells #[.int .i64 7, .string (cbs sn), .string (cbs so), .int .i64 sd, .slice sep sel sec, .slice sbp sbl sbc, .slice slp sll slc, .int .i64 sa, .int .i64 sr] 33)) (.cells #[.int .i64 0, .int .i64 0] 25); rw [size_alloc] at this; exact this
  clear hwc
  have hK := (hb5.cell (p := ⟨w.heap.size + 1, 11, none⟩) hKl).trans HK.out
  have hA : wc.cell? ⟨w.heap.size + 1 + 1, 11, none⟩ = some (.int .i64 0) := by rw [cell_of_row _ _ _ _ _ _ ((hb5.block _ HL3.out).trans HA.out)]; rfl
  have HS0 : Hid (wc.cell? ⟨w3.heap.size + 1, 0, none⟩ = some (.int .i64 0) ∧ wc.cell? ⟨w3.heap.size, 0, none⟩ = some (.int .i64 7) ∧ wc.cell? ⟨w.heap.size + 1, 11, none⟩ = some (.int .i64 7)) := Lib.hid ⟨(duo hG).1.1, (nen hS).1.1, hK⟩
  have HLT := Lib.hid (show w3.heap.size + 1 < wc.heap.size ∧ w3.heap.size < wc.heap.size ∧ w.heap.size + 1 < wc.heap.size from ⟨heap_lt' hG, heap_lt' hS, by have := HL3.out; have := hb5.size; omega⟩)
  have HW := Lib.hid (below_seq HB3.out hb5 HB3.out.size)
  clear hb5 hS hG hK hA hKl HK HA HB3 HB1 HB0
  have HKN := Lib.hid (known4_any wc.drew (by obtain ⟨gt, gfr, hg⟩ := HOP.out; exact ⟨gt, gfr, (HW.out.block _ (heap_lt' hg)).trans hg⟩))
  obtain ⟨e0, e1, e2⟩ := HS0.out
  have hwr : IntKind.i64.wrap (3 : Int) = 3 := by decide
  go_region_held3 (fun w' => w'.cell? ⟨w3.heap.size + 1, 0, none⟩ = some (.int .i64 0) ∧ w'.cell? ⟨w3.heap.size, 0, none⟩ = some (.int .i64 7) ∧ w'.cell? ⟨w.heap.size + 1, 11, none⟩ = some (.int .i64 7)) (first | exact HS0.out | exact HS4.out) (first
    | (go_at_call 8; (with_reducible refine Calls.mono HKN.out ?_); rintro e w4 ⟨rfl, hb4⟩; have HB4 := Lib.hid (below_seq ((Below.refl wc.heap.size wc).drew) hb4 (Nat.le_refl _)); have HS4 : Hid (w4.cell? ⟨w3.heap.size + 1, 0, none⟩ = some (.int .i64 0) ∧ w4.cell? ⟨w3.heap.size, 0, none⟩ = some (.int .i64 7) ∧ w4.cell? ⟨w.heap.size + 1, 11, none⟩ = some (.int .i64 7)) := Lib.hid ⟨(HB4.out.cell (p := ⟨w3.heap.size + 1, 0, none⟩) HLT.out.1).trans HS0.out.1, (HB4.out.cell (p := ⟨w3.heap.size, 0, none⟩) HLT.out.2.1).trans HS0.out.2.1, (HB4.out.cell (p := ⟨w.heap.size + 1, 11, none⟩) HLT.out.2.2).trans HS0.out.2.2⟩; clear hb4 HKN))
  go_wp2_with fail
  go_ret
  exact ⟨rfl, below_seq HW.out HB4.out HW.out.size⟩

def oddU12 : List Ln.Lx.Tk := (Ln.Lx.toks [108, 101, 116, 32, 120, 32, 61, 32, 49, 59]).1
set_option maxRecDepth 40000 in
theorem oddT12 : Ln.Lx.toks [108, 101, 116, 32, 120, 32, 61, 32, 49, 59] = (oddU12, 0, 0) := by kernel_rfl
theorem oddN12 : oddU12.length = 6 := by kernel_rfl
set_option maxRecDepth 40000 in
theorem oddP12 : oddly oddU12 6 = some (0, 0, 2, 6) := by kernel_rfl
theorem oddS12 : ∀ t ∈ oddU12, t.text.length ≤ 281474976710656 := by
  have h : (oddU12.all fun t => decide (t.text.length ≤ 281474976710656)) = true := by kernel_rfl
  exact fun t ht => of_decide_eq_true (List.all_eq_true.1 h t ht)

set_option maxRecDepth 40000 in
set_option maxHeartbeats 8000000 in
theorem odd4_12 (w : World) (hops : OpsIn w) :
    Calls Tryd.prog 4 #[.int .i64 12] w fun e w' => e = .returned (.bool true) ∧ Below w.heap.size w w' := by
  obtain ⟨m, hm, hmk⟩ := oddly_out oddP12
  have HM := Lib.hid hm
  have HMK := Lib.hid hmk
  have HOP := Lib.hid hops
  obtain ⟨w0, hw0⟩ : ∃ w0, w0 = ((w.alloc (.cells #[.string ⟨#[120, 59]⟩, .string ⟨#[120, 32, 43, 32, 49, 59]⟩, .string ⟨#[120, 46, 102, 32, 61, 32, 50, 59]⟩, .string ⟨#[120, 91, 49, 93, 32, 61, 32, 50, 59]⟩, .string ⟨#[102, 40, 41, 32, 61, 32, 50, 59]⟩, .string ⟨#[49, 32, 61, 32, 50, 59]⟩, .string ⟨#[102, 40, 49, 41, 59]⟩, .string ⟨#[40, 120, 41, 32, 61, 32, 49, 59]⟩, .string ⟨#[45, 120, 32, 61, 32, 49, 59]⟩, .string ⟨#[114, 101, 116, 117, 114, 110]⟩, .string ⟨#[114, 101, 116, 117, 114, 110, 59]⟩, .string ⟨#[114, 101, 116, 117, 114, 110, 32, 49, 59]⟩, .string ⟨#[108, 101, 116, 32, 120, 32, 61, 32, 49, 59]⟩, .string ⟨#[118, 97, 114, 32, 120, 58, 32, 91, 91, 105, 110, 116, 93, 93, 59]⟩, .string ⟨#[118, 97, 114, 32, 120, 58, 32, 91, 91, 91, 91, 105, 110, 116, 93, 93, 93, 93, 59]⟩, .string ⟨#[105, 102, 32, 98, 32, 123, 32, 125, 32, 101, 108, 115, 101, 32, 102, 40, 41, 59]⟩, .string ⟨#[112, 114, 105, 110, 116, 59]⟩, .string ⟨#[119, 104, 105, 108, 101, 32, 123, 32, 125]⟩, .string ⟨#[120, 32, 61, 32, 59]⟩, .string ⟨#[102, 40, 41, 46, 103, 32, 61, 32, 49, 59]⟩] 9)).alloc (.cells #[.int .i64 0, .int .i64 0, .int .i64 4, .int .i64 4, .int .i64 0, .int .i64 0, .int .i64 9, .int .i64 3, .int .i64 0, .int .i64 0, .int .i64 7, .int .i64 7, .int .i64 0, .int .i64 1, .int .i64 0, .int .i64 0, .int .i64 0, .int .i64 0, .int .i64 0, .int .i64 4] 3)).alloc (.cells #[.int .i64 1, .int .i64 5, .int .i64 0, .int .i64 0, .int .i64 4, .int .i64 2, .int .i64 0, .int .i64 0, .int .i64 3, .int .i64 6, .int .i64 0, .int .i64 0, .int .i64 6, .int .i64 0, .int .i64 10, .int .i64 14, .int .i64 5, .int .i64 6, .int .i64 4, .int .i64 0] 3) := ⟨_, rfl⟩
  have hb0 : Below w.heap.size w w0 := by rw [hw0]; exact (((Below.refl _ _).alloc (Nat.le_refl _) _).alloc (by simp only [size_alloc]; omega) _).alloc (by simp only [size_alloc]; omega) _
  have hkK : w0.heap[w.heap.size + 1]? = some (.cells #[.int .i64 0, .int .i64 0, .int .i64 4, .int .i64 4, .int .i64 0, .int .i64 0, .int .i64 9, .int .i64 3, .int .i64 0, .int .i64 0, .int .i64 7, .int .i64 7, .int .i64 0, .int .i64 1, .int .i64 0, .int .i64 0, .int .i64 0, .int .i64 0, .int .i64 0, .int .i64 4] 3 (0, 0)) := by rw [hw0]; have := heap_alloc_new (w.alloc (.cells #[.string ⟨#[120, 59]⟩, .string ⟨#[120, 32, 43, 32, 49, 59]⟩, .string ⟨#[120, 46, 102, 32, 61, 32, 50, 59]⟩, .string ⟨#[120, 91, 49, 93, 32, 61, 32, 50, 59]⟩, .string ⟨#[102, 40, 41, 32, 61, 32, 50, 59]⟩, .string ⟨#[49, 32, 61, 32, 50, 59]⟩, .string ⟨#[102, 40, 49, 41, 59]⟩, .string ⟨#[40, 120, 41, 32, 61, 32, 49, 59]⟩, .string ⟨#[45, 120, 32, 61, 32, 49, 59]⟩, .string ⟨#[114, 101, 116, 117, 114, 110]⟩, .string ⟨#[114, 101, 116, 117, 114, 110, 59]⟩, .string ⟨#[114, 101, 116, 117, 114, 110, 32, 49, 59]⟩, .string ⟨#[108, 101, 116, 32, 120, 32, 61, 32, 49, 59]⟩, .string ⟨#[118, 97, 114, 32, 120, 58, 32, 91, 91, 105, 110, 116, 93, 93, 59]⟩, .string ⟨#[118, 97, 114, 32, 120, 58, 32, 91, 91, 91, 91, 105, 110, 116, 93, 93, 93, 93, 59]⟩, .string ⟨#[105, 102, 32, 98, 32, 123, 32, 125, 32, 101, 108, 115, 101, 32, 102, 40, 41, 59]⟩, .string ⟨#[112, 114, 105, 110, 116, 59]⟩, .string ⟨#[119, 104, 105, 108, 101, 32, 123, 32, 125]⟩, .string ⟨#[120, 32, 61, 32, 59]⟩, .string ⟨#[102, 40, 41, 46, 103, 32, 61, 32, 49, 59]⟩] 9)) (.cells #[.int .i64 0, .int .i64 0, .int .i64 4, .int .i64 4, .int .i64 0, .int .i64 0, .int .i64 9, .int .i64 3, .int .i64 0, .int .i64 0, .int .i64 7, .int .i64 7, .int .i64 0, .int .i64 1, .int .i64 0, .int .i64 0, .int .i64 0, .int .i64 0, .int .i64 0, .int .i64 4] 3); rw [size_alloc] at this; exact alloc_box _ this
  have hkA : w0.heap[w.heap.size + 1 + 1]? = some (.cells #[.int .i64 1, .int .i64 5, .int .i64 0, .int .i64 0, .int .i64 4, .int .i64 2, .int .i64 0, .int .i64 0, .int .i64 3, .int .i64 6, .int .i64 0, .int .i64 0, .int .i64 6, .int .i64 0, .int .i64 10, .int .i64 14, .int .i64 5, .int .i64 6, .int .i64 4, .int .i64 0] 3 (0, 0)) := by rw [hw0]; have := heap_alloc_new ((w.alloc (.cells #[.string ⟨#[120, 59]⟩, .string ⟨#[120, 32, 43, 32, 49, 59]⟩, .string ⟨#[120, 46, 102, 32, 61, 32, 50, 59]⟩, .string ⟨#[120, 91, 49, 93, 32, 61, 32, 50, 59]⟩, .string ⟨#[102, 40, 41, 32, 61, 32, 50, 59]⟩, .string ⟨#[49, 32, 61, 32, 50, 59]⟩, .string ⟨#[102, 40, 49, 41, 59]⟩, .string ⟨#[40, 120, 41, 32, 61, 32, 49, 59]⟩, .string ⟨#[45, 120, 32, 61, 32, 49, 59]⟩, .string ⟨#[114, 101, 116, 117, 114, 110]⟩, .string ⟨#[114, 101, 116, 117, 114, 110, 59]⟩, .string ⟨#[114, 101, 116, 117, 114, 110, 32, 49, 59]⟩, .string ⟨#[108, 101, 116, 32, 120, 32, 61, 32, 49, 59]⟩, .string ⟨#[118, 97, 114, 32, 120, 58, 32, 91, 91, 105, 110, 116, 93, 93, 59]⟩, .string ⟨#[118, 97, 114, 32, 120, 58, 32, 91, 91, 91, 91, 105, 110, 116, 93, 93, 93, 93, 59]⟩, .string ⟨#[105, 102, 32, 98, 32, 123, 32, 125, 32, 101, 108, 115, 101, 32, 102, 40, 41, 59]⟩, .string ⟨#[112, 114, 105, 110, 116, 59]⟩, .string ⟨#[119, 104, 105, 108, 101, 32, 123, 32, 125]⟩, .string ⟨#[120, 32, 61, 32, 59]⟩, .string ⟨#[102, 40, 41, 46, 103, 32, 61, 32, 49, 59]⟩] 9)).alloc (.cells #[.int .i64 0, .int .i64 0, .int .i64 4, .int .i64 4, .int .i64 0, .int .i64 0, .int .i64 9, .int .i64 3, .int .i64 0, .int .i64 0, .int .i64 7, .int .i64 7, .int .i64 0, .int .i64 1, .int .i64 0, .int .i64 0, .int .i64 0, .int .i64 0, .int .i64 0, .int .i64 4] 3)) (.cells #[.int .i64 1, .int .i64 5, .int .i64 0, .int .i64 0, .int .i64 4, .int .i64 2, .int .i64 0, .int .i64 0, .int .i64 3, .int .i64 6, .int .i64 0, .int .i64 0, .int .i64 6, .int .i64 0, .int .i64 10, .int .i64 14, .int .i64 5, .int .i64 6, .int .i64 4, .int .i64 0] 3); simp only [size_alloc] at this; exact this
  have HKK := Lib.hid hkK
  have HKA := Lib.hid hkA
  have HB0 := Lib.hid hb0
  clear hm hmk hops hkK hkA hb0
  go_enter Tryd.func4, Tryd.ntmps4
  go_wp2_with fail
  rw [← hw0]
  clear hw0
  have htk := tokens_are ⟨#[108, 101, 116, 32, 120, 32, 61, 32, 49, 59]⟩ (by decide) oddU12 0 0 oddT12 w0
  rw [oddN12] at htk
  refine (htk).mono ?_
  clear htk
  rintro e w1 ⟨A, cA, rfl, hl1, hb1⟩
  have hbf : Below w1.heap.size w1 (w1.alloc (.cells #[.int .i64 0, .int .i64 0] 25)) := (Below.refl _ _).alloc (Nat.le_refl _) _
  have ht := (toks_of (c := cA) hl1 oddS12).below hbf
  rw [oddN12] at ht
  have HT := Lib.hid ht
  have hb01 := below_seq hb1 hbf hb1.size
  have HB1 := Lib.hid (below_seq HB0.out hb01 HB0.out.size)
  have HKK1 := Lib.hid ((hb01.block _ (heap_lt' HKK.out)).trans HKK.out)
  have HKA1 := Lib.hid ((hb01.block _ (heap_lt' HKA.out)).trans HKA.out)
  clear ht hl1 hb1 hbf hb01 HKK HKA
  go_wp2_with fail
  have hlen : (oddU12.map toRT).length ≤ 90000000 := by rw [List.length_map, oddN12]; decide
  refine (stParse_any _ _ _ (oddU12.map toRT) (pxBy oddU12 (10 * 6 + 20)) (pok_of hlen (pxBy_is oddN12 (by decide))) 0 0 HT.out (by obtain ⟨gt, gfr, hg⟩ := HOP.out; exact ⟨gt, gfr, (HB1.out.block _ (heap_lt' hg)).trans hg⟩) (10 * 6 + 20) (by decide) _ HM.out).mono ?_
  rintro e w3 ⟨sk, sn, so, sd, sep, sel, sec, sbp, sbl, sbc, slp, sll, slc, sa, sr, rfl, hs, hb3⟩
  have hsk := hs.kindM
  clear hsk
  have hKr := (hb3.block _ (heap_lt' HKK1.out)).trans HKK1.out
  have hK : w3.cell? ⟨w.heap.size + 1, 12, none⟩ = some (.int .i64 0) := by rw [cell_of_row _ _ _ _ _ _ hKr]; rfl
  have hKl := heap_lt' hKr
  have hAr := (hb3.block _ (heap_lt' HKA1.out)).trans HKA1.out
  have HA := Lib.hid hAr
  have HK := Lib.hid hK
  have HL3 := Lib.hid (heap_lt' hAr)
  have HB3 := Lib.hid (below_seq HB1.out hb3 HB1.out.size)
  clear hs hb3 hKr hAr HT HKK1 HKA1 hlen
  dsimp only
  have hKw : ((w3.alloc (.cells #[.int .i64 sk, .string (cbs sn), .string (cbs so), .int .i64 sd, .slice sep sel sec, .slice sbp sbl sbc, .slice slp sll slc, .int .i64 sa, .int .i64 sr] 33)).alloc (.cells #[.int .i64 2, .int .i64 6] 25)).cell? ⟨w.heap.size + 1, 12, none⟩ = some (.int .i64 0) :=
    ((((Below.refl _ _).alloc (Nat.le_refl _) _).alloc (by rw [size_alloc]; omega) _ : Below w3.heap.size w3 ((w3.alloc (.cells #[.int .i64 sk, .string (cbs sn), .string (cbs so), .int .i64 sd, .slice sep sel sec, .slice sbp sbl sbc, .slice slp sll slc, .int .i64 sa, .int .i64 sr] 33)).alloc (.cells #[.int .i64 2, .int .i64 6] 25))).cell (p := ⟨w.heap.size + 1, 12, none⟩) hKl).trans hK
  go_wp2_with fail
  clear hK hKw
  obtain ⟨wc, hwc⟩ : ∃ wc, wc = (w3.alloc (.cells #[.int .i64 sk, .string (cbs sn), .string (cbs so), .int .i64 sd, .slice sep sel sec, .slice sbp sbl sbc, .slice slp sll slc, .int .i64 sa, .int .i64 sr] 33)).alloc (.cells #[.int .i64 2, .int .i64 6] 25) := ⟨_, rfl⟩
  try rw [← hwc]
  have hb5 : Below w3.heap.size w3 wc := by rw [hwc]; exact ((Below.refl _ _).alloc (Nat.le_refl _) _).alloc (by rw [size_alloc]; omega) _
  have hS : wc.heap[w3.heap.size]? = some (.cells #[.int .i64 sk, .string (cbs sn), .string (cbs so), .int .i64 sd, .slice sep sel sec, .slice sbp sbl sbc, .slice slp sll slc, .int .i64 sa, .int .i64 sr] 33 (0, 0)) := by rw [hwc]; exact alloc_box _ (heap_alloc_new w3 _)
  have hG : wc.heap[w3.heap.size + 1]? = some (.cells #[.int .i64 2, .int .i64 6] 25 (0, 0)) := by rw [hwc]; have := heap_alloc_new (w3.alloc (.cells #[.int .i64 sk, .string (cbs sn), .string (cbs so), .int .i64 sd, .slice sep sel sec, .slice sbp sbl sbc, .slice slp sll slc, .int .i64 sa, .int .i64 sr] 33)) (.cells #[.int .i64 2, .int .i64 6] 25); rw [size_alloc] at this; exact this
  clear hwc
  have hK := (hb5.cell (p := ⟨w.heap.size + 1, 12, none⟩) hKl).trans HK.out
  have hA : wc.cell? ⟨w.heap.size + 1 + 1, 12, none⟩ = some (.int .i64 6) := by rw [cell_of_row _ _ _ _ _ _ ((hb5.block _ HL3.out).trans HA.out)]; rfl
  have HS0 : Hid (wc.cell? ⟨w3.heap.size + 1, 0, none⟩ = some (.int .i64 2) ∧ wc.cell? ⟨w3.heap.size + 1, 1, none⟩ = some (.int .i64 6) ∧ wc.cell? ⟨w.heap.size + 1 + 1, 12, none⟩ = some (.int .i64 6)) := Lib.hid ⟨(duo hG).1.1, (duo hG).1.2, hA⟩
  have HLT := Lib.hid (show w3.heap.size + 1 < wc.heap.size ∧ w3.heap.size + 1 < wc.heap.size ∧ w.heap.size + 1 + 1 < wc.heap.size from ⟨heap_lt' hG, heap_lt' hG, by have := HL3.out; have := hb5.size; omega⟩)
  have HW := Lib.hid (below_seq HB3.out hb5 HB3.out.size)
  clear hb5 hS hG hK hA hKl HK HA HB3 HB1 HB0
  have HKN := Lib.hid (known4_any wc.drew (by obtain ⟨gt, gfr, hg⟩ := HOP.out; exact ⟨gt, gfr, (HW.out.block _ (heap_lt' hg)).trans hg⟩))
  obtain ⟨e0, e1, e2⟩ := HS0.out
  have hq := eq_f2 2 6 2 6
  go_region_held3 (fun w' => w'.cell? ⟨w3.heap.size + 1, 0, none⟩ = some (.int .i64 2) ∧ w'.cell? ⟨w3.heap.size + 1, 1, none⟩ = some (.int .i64 6) ∧ w'.cell? ⟨w.heap.size + 1 + 1, 12, none⟩ = some (.int .i64 6)) (first | exact HS0.out | exact HS4.out) (first
    | (go_at_call 8; (with_reducible refine Calls.mono HKN.out ?_); rintro e w4 ⟨rfl, hb4⟩; have HB4 := Lib.hid (below_seq ((Below.refl wc.heap.size wc).drew) hb4 (Nat.le_refl _)); have HS4 : Hid (w4.cell? ⟨w3.heap.size + 1, 0, none⟩ = some (.int .i64 2) ∧ w4.cell? ⟨w3.heap.size + 1, 1, none⟩ = some (.int .i64 6) ∧ w4.cell? ⟨w.heap.size + 1 + 1, 12, none⟩ = some (.int .i64 6)) := Lib.hid ⟨(HB4.out.cell (p := ⟨w3.heap.size + 1, 0, none⟩) HLT.out.1).trans HS0.out.1, (HB4.out.cell (p := ⟨w3.heap.size + 1, 1, none⟩) HLT.out.2.1).trans HS0.out.2.1, (HB4.out.cell (p := ⟨w.heap.size + 1 + 1, 12, none⟩) HLT.out.2.2).trans HS0.out.2.2⟩; clear hb4 HKN))
  go_wp2_with fail
  go_ret
  exact ⟨rfl, below_seq HW.out HB4.out HW.out.size⟩

def oddU13 : List Ln.Lx.Tk := (Ln.Lx.toks [118, 97, 114, 32, 120, 58, 32, 91, 91, 105, 110, 116, 93, 93, 59]).1
set_option maxRecDepth 40000 in
theorem oddT13 : Ln.Lx.toks [118, 97, 114, 32, 120, 58, 32, 91, 91, 105, 110, 116, 93, 93, 59] = (oddU13, 0, 0) := by kernel_rfl
theorem oddN13 : oddU13.length = 10 := by kernel_rfl
set_option maxRecDepth 40000 in
theorem oddP13 : oddly oddU13 10 = some (1, 9, 0, 0) := by kernel_rfl
theorem oddS13 : ∀ t ∈ oddU13, t.text.length ≤ 281474976710656 := by
  have h : (oddU13.all fun t => decide (t.text.length ≤ 281474976710656)) = true := by kernel_rfl
  exact fun t ht => of_decide_eq_true (List.all_eq_true.1 h t ht)

set_option maxRecDepth 40000 in
set_option maxHeartbeats 8000000 in
theorem odd4_13 (w : World) (hops : OpsIn w) :
    Calls Tryd.prog 4 #[.int .i64 13] w fun e w' => e = .returned (.bool true) ∧ Below w.heap.size w w' := by
  obtain ⟨m, hm, hmk⟩ := oddly_out oddP13
  have HM := Lib.hid hm
  have HMK := Lib.hid hmk
  have HOP := Lib.hid hops
  obtain ⟨w0, hw0⟩ : ∃ w0, w0 = ((w.alloc (.cells #[.string ⟨#[120, 59]⟩, .string ⟨#[120, 32, 43, 32, 49, 59]⟩, .string ⟨#[120, 46, 102, 32, 61, 32, 50, 59]⟩, .string ⟨#[120, 91, 49, 93, 32, 61, 32, 50, 59]⟩, .string ⟨#[102, 40, 41, 32, 61, 32, 50, 59]⟩, .string ⟨#[49, 32, 61, 32, 50, 59]⟩, .string ⟨#[102, 40, 49, 41, 59]⟩, .string ⟨#[40, 120, 41, 32, 61, 32, 49, 59]⟩, .string ⟨#[45, 120, 32, 61, 32, 49, 59]⟩, .string ⟨#[114, 101, 116, 117, 114, 110]⟩, .string ⟨#[114, 101, 116, 117, 114, 110, 59]⟩, .string ⟨#[114, 101, 116, 117, 114, 110, 32, 49, 59]⟩, .string ⟨#[108, 101, 116, 32, 120, 32, 61, 32, 49, 59]⟩, .string ⟨#[118, 97, 114, 32, 120, 58, 32, 91, 91, 105, 110, 116, 93, 93, 59]⟩, .string ⟨#[118, 97, 114, 32, 120, 58, 32, 91, 91, 91, 91, 105, 110, 116, 93, 93, 93, 93, 59]⟩, .string ⟨#[105, 102, 32, 98, 32, 123, 32, 125, 32, 101, 108, 115, 101, 32, 102, 40, 41, 59]⟩, .string ⟨#[112, 114, 105, 110, 116, 59]⟩, .string ⟨#[119, 104, 105, 108, 101, 32, 123, 32, 125]⟩, .string ⟨#[120, 32, 61, 32, 59]⟩, .string ⟨#[102, 40, 41, 46, 103, 32, 61, 32, 49, 59]⟩] 9)).alloc (.cells #[.int .i64 0, .int .i64 0, .int .i64 4, .int .i64 4, .int .i64 0, .int .i64 0, .int .i64 9, .int .i64 3, .int .i64 0, .int .i64 0, .int .i64 7, .int .i64 7, .int .i64 0, .int .i64 1, .int .i64 0, .int .i64 0, .int .i64 0, .int .i64 0, .int .i64 0, .int .i64 4] 3)).alloc (.cells #[.int .i64 1, .int .i64 5, .int .i64 0, .int .i64 0, .int .i64 4, .int .i64 2, .int .i64 0, .int .i64 0, .int .i64 3, .int .i64 6, .int .i64 0, .int .i64 0, .int .i64 6, .int .i64 0, .int .i64 10, .int .i64 14, .int .i64 5, .int .i64 6, .int .i64 4, .int .i64 0] 3) := ⟨_, rfl⟩
  have hb0 : Below w.heap.size w w0 := by rw [hw0]; exact (((Below.refl _ _).alloc (Nat.le_refl _) _).alloc (by simp only [size_alloc]; omega) _).alloc (by simp only [size_alloc]; omega) _
  have hkK : w0.heap[w.heap.size + 1]? = some (.cells #[.int .i64 0, .int .i64 0, .int .i64 4, .int .i64 4, .int .i64 0, .int .i64 0, .int .i64 9, .int .i64 3, .int .i64 0, .int .i64 0, .int .i64 7, .int .i64 7, .int .i64 0, .int .i64 1, .int .i64 0, .int .i64 0, .int .i64 0, .int .i64 0, .int .i64 0, .int .i64 4] 3 (0, 0)) := by rw [hw0]; have := heap_alloc_new (w.alloc (.cells #[.string ⟨#[120, 59]⟩, .string ⟨#[120, 32, 43, 32, 49, 59]⟩, .string ⟨#[120, 46, 102, 32, 61, 32, 50, 59]⟩, .string ⟨#[120, 91, 49, 93, 32, 61, 32, 50, 59]⟩, .string ⟨#[102, 40, 41, 32, 61, 32, 50, 59]⟩, .string ⟨#[49, 32, 61, 32, 50, 59]⟩, .string ⟨#[102, 40, 49, 41, 59]⟩, .string ⟨#[40, 120, 41, 32, 61, 32, 49, 59]⟩, .string ⟨#[45, 120, 32, 61, 32, 49, 59]⟩, .string ⟨#[114, 101, 116, 117, 114, 110]⟩, .string ⟨#[114, 101, 116, 117, 114, 110, 59]⟩, .string ⟨#[114, 101, 116, 117, 114, 110, 32, 49, 59]⟩, .string ⟨#[108, 101, 116, 32, 120, 32, 61, 32, 49, 59]⟩, .string ⟨#[118, 97, 114, 32, 120, 58, 32, 91, 91, 105, 110, 116, 93, 93, 59]⟩, .string ⟨#[118, 97, 114, 32, 120, 58, 32, 91, 91, 91, 91, 105, 110, 116, 93, 93, 93, 93, 59]⟩, .string ⟨#[105, 102, 32, 98, 32, 123, 32, 125, 32, 101, 108, 115, 101, 32, 102, 40, 41, 59]⟩, .string ⟨#[112, 114, 105, 110, 116, 59]⟩, .string ⟨#[119, 104, 105, 108, 101, 32, 123, 32, 125]⟩, .string ⟨#[120, 32, 61, 32, 59]⟩, .string ⟨#[102, 40, 41, 46, 103, 32, 61, 32, 49, 59]⟩] 9)) (.cells #[.int .i64 0, .int .i64 0, .int .i64 4, .int .i64 4, .int .i64 0, .int .i64 0, .int .i64 9, .int .i64 3, .int .i64 0, .int .i64 0, .int .i64 7, .int .i64 7, .int .i64 0, .int .i64 1, .int .i64 0, .int .i64 0, .int .i64 0, .int .i64 0, .int .i64 0, .int .i64 4] 3); rw [size_alloc] at this; exact alloc_box _ this
  have hkA : w0.heap[w.heap.size + 1 + 1]? = some (.cells #[.int .i64 1, .int .i64 5, .int .i64 0, .int .i64 0, .int .i64 4, .int .i64 2, .int .i64 0, .int .i64 0, .int .i64 3, .int .i64 6, .int .i64 0, .int .i64 0, .int .i64 6, .int .i64 0, .int .i64 10, .int .i64 14, .int .i64 5, .int .i64 6, .int .i64 4, .int .i64 0] 3 (0, 0)) := by rw [hw0]; have := heap_alloc_new ((w.alloc (.cells #[.string ⟨#[120, 59]⟩, .string ⟨#[120, 32, 43, 32, 49, 59]⟩, .string ⟨#[120, 46, 102, 32, 61, 32, 50, 59]⟩, .string ⟨#[120, 91, 49, 93, 32, 61, 32, 50, 59]⟩, .string ⟨#[102, 40, 41, 32, 61, 32, 50, 59]⟩, .string ⟨#[49, 32, 61, 32, 50, 59]⟩, .string ⟨#[102, 40, 49, 41, 59]⟩, .string ⟨#[40, 120, 41, 32, 61, 32, 49, 59]⟩, .string ⟨#[45, 120, 32, 61, 32, 49, 59]⟩, .string ⟨#[114, 101, 116, 117, 114, 110]⟩, .string ⟨#[114, 101, 116, 117, 114, 110, 59]⟩, .string ⟨#[114, 101, 116, 117, 114, 110, 32, 49, 59]⟩, .string ⟨#[108, 101, 116, 32, 120, 32, 61, 32, 49, 59]⟩, .string ⟨#[118, 97, 114, 32, 120, 58, 32, 91, 91, 105, 110, 116, 93, 93, 59]⟩, .string ⟨#[118, 97, 114, 32, 120, 58, 32, 91, 91, 91, 91, 105, 110, 116, 93, 93, 93, 93, 59]⟩, .string ⟨#[105, 102, 32, 98, 32, 123, 32, 125, 32, 101, 108, 115, 101, 32, 102, 40, 41, 59]⟩, .string ⟨#[112, 114, 105, 110, 116, 59]⟩, .string ⟨#[119, 104, 105, 108, 101, 32, 123, 32, 125]⟩, .string ⟨#[120, 32, 61, 32, 59]⟩, .string ⟨#[102, 40, 41, 46, 103, 32, 61, 32, 49, 59]⟩] 9)).alloc (.cells #[.int .i64 0, .int .i64 0, .int .i64 4, .int .i64 4, .int .i64 0, .int .i64 0, .int .i64 9, .int .i64 3, .int .i64 0, .int .i64 0, .int .i64 7, .int .i64 7, .int .i64 0, .int .i64 1, .int .i64 0, .int .i64 0, .int .i64 0, .int .i64 0, .int .i64 0, .int .i64 4] 3)) (.cells #[.int .i64 1, .int .i64 5, .int .i64 0, .int .i64 0, .int .i64 4, .int .i64 2, .int .i64 0, .int .i64 0, .int .i64 3, .int .i64 6, .int .i64 0, .int .i64 0, .int .i64 6, .int .i64 0, .int .i64 10, .int .i64 14, .int .i64 5, .int .i64 6, .int .i64 4, .int .i64 0] 3); simp only [size_alloc] at this; exact this
  have HKK := Lib.hid hkK
  have HKA := Lib.hid hkA
  have HB0 := Lib.hid hb0
  clear hm hmk hops hkK hkA hb0
  go_enter Tryd.func4, Tryd.ntmps4
  go_wp2_with fail
  rw [← hw0]
  clear hw0
  have htk := tokens_are ⟨#[118, 97, 114, 32, 120, 58, 32, 91, 91, 105, 110, 116, 93, 93, 59]⟩ (by decide) oddU13 0 0 oddT13 w0
  rw [oddN13] at htk
  refine (htk).mono ?_
  clear htk
  rintro e w1 ⟨A, cA, rfl, hl1, hb1⟩
  have hbf : Below w1.heap.size w1 (w1.alloc (.cells #[.int .i64 0, .int .i64 0] 25)) := (Below.refl _ _).alloc (Nat.le_refl _) _
  have ht := (toks_of (c := cA) hl1 oddS13).below hbf
  rw [oddN13] at ht
  have HT := Lib.hid ht
  have hb01 := below_seq hb1 hbf hb1.size
  have HB1 := Lib.hid (below_seq HB0.out hb01 HB0.out.size)
  have HKK1 := Lib.hid ((hb01.block _ (heap_lt' HKK.out)).trans HKK.out)
  have HKA1 := Lib.hid ((hb01.block _ (heap_lt' HKA.out)).trans HKA.out)
  clear ht hl1 hb1 hbf hb01 HKK HKA
  go_wp2_with fail
  have hlen : (oddU13.map toRT).length ≤ 90000000 := by rw [List.length_map, oddN13]; decide
  refine (stParse_any _ _ _ (oddU13.map toRT) (pxBy oddU13 (10 * 10 + 20)) (pok_of hlen (pxBy_is oddN13 (by decide))) 0 0 HT.out (by obtain ⟨gt, gfr, hg⟩ := HOP.out; exact ⟨gt, gfr, (HB1.out.block _ (heap_lt' hg)).trans hg⟩) (10 * 10 + 20) (by decide) _ HM.out).mono ?_
  rintro e w3 ⟨sk, sn, so, sd, sep, sel, sec, sbp, sbl, sbc, slp, sll, slc, sa, sr, rfl, hs, hb3⟩
  have hsk := hs.kindM
  rw [HMK.out] at hsk
  subst hsk
  have hKr := (hb3.block _ (heap_lt' HKK1.out)).trans HKK1.out
  have hK : w3.cell? ⟨w.heap.size + 1, 13, none⟩ = some (.int .i64 1) := by rw [cell_of_row _ _ _ _ _ _ hKr]; rfl
  have hKl := heap_lt' hKr
  have hAr := (hb3.block _ (heap_lt' HKA1.out)).trans HKA1.out
  have HA := Lib.hid hAr
  have HK := Lib.hid hK
  have HL3 := Lib.hid (heap_lt' hAr)
  have HB3 := Lib.hid (below_seq HB1.out hb3 HB1.out.size)
  clear hs hb3 hKr hAr HT HKK1 HKA1 hlen
  dsimp only
  have hKw : ((w3.alloc (.cells #[.int .i64 1, .string (cbs sn), .string (cbs so), .int .i64 sd, .slice sep sel sec, .slice sbp sbl sbc, .slice slp sll slc, .int .i64 sa, .int .i64 sr] 33)).alloc (.cells #[.int .i64 0, .int .i64 0] 25)).cell? ⟨w.heap.size + 1, 13, none⟩ = some (.int .i64 1) :=
    ((((Below.refl _ _).alloc (Nat.le_refl _) _).alloc (by rw [size_alloc]; omega) _ : Below w3.heap.size w3 ((w3.alloc (.cells #[.int .i64 1, .string (cbs sn), .string (cbs so), .int .i64 sd, .slice sep sel sec, .slice sbp sbl sbc, .slice slp sll slc, .int .i64 sa, .int .i64 sr] 33)).alloc (.cells #[.int .i64 0, .int .i64 0] 25))).cell (p := ⟨w.heap.size + 1, 13, none⟩) hKl).trans hK
  go_wp2_with fail
  clear hK hKw
  obtain ⟨wc, hwc⟩ : ∃ wc, wc = (w3.alloc (.cells #[.int .i64 1, .string (cbs sn), .string (cbs so), .int .i64 sd, .slice sep sel sec, .slice sbp sbl sbc, .slice slp sll slc, .int .i64 sa, .int .i64 sr] 33)).alloc (.cells #[.int .i64 0, .int .i64 0] 25) := ⟨_, rfl⟩
  try rw [← hwc]
  have hb5 : Below w3.heap.size w3 wc := by rw [hwc]; exact ((Below.refl _ _).alloc (Nat.le_refl _) _).alloc (by rw [size_alloc]; omega) _
  have hS : wc.heap[w3.heap.size]? = some (.cells #[.int .i64 1, .string (cbs sn), .string (cbs so), .int .i64 sd, .slice sep sel sec, .slice sbp sbl sbc, .slice slp sll slc, .int .i64 sa, .int .i64 sr] 33 (0, 0)) := by rw [hwc]; exact alloc_box _ (heap_alloc_new w3 _)
  have hG : wc.heap[w3.heap.size + 1]? = some (.cells #[.int .i64 0, .int .i64 0] 25 (0, 0)) := by rw [hwc]; have := heap_alloc_new (w3.alloc (.cells #[.int .i64 1, .string (cbs sn), .string (cbs so), .int .i64 sd, .slice sep sel sec, .slice sbp sbl sbc, .slice slp sll slc, .int .i64 sa, .int .i64 sr] 33)) (.cells #[.int .i64 0, .int .i64 0] 25); rw [size_alloc] at this; exact this
  clear hwc
  have hK := (hb5.cell (p := ⟨w.heap.size + 1, 13, none⟩) hKl).trans HK.out
  have hA : wc.cell? ⟨w.heap.size + 1 + 1, 13, none⟩ = some (.int .i64 0) := by rw [cell_of_row _ _ _ _ _ _ ((hb5.block _ HL3.out).trans HA.out)]; rfl
  have HS0 : Hid (wc.cell? ⟨w3.heap.size + 1, 0, none⟩ = some (.int .i64 0) ∧ wc.cell? ⟨w3.heap.size, 0, none⟩ = some (.int .i64 1) ∧ wc.cell? ⟨w.heap.size + 1, 13, none⟩ = some (.int .i64 1)) := Lib.hid ⟨(duo hG).1.1, (nen hS).1.1, hK⟩
  have HLT := Lib.hid (show w3.heap.size + 1 < wc.heap.size ∧ w3.heap.size < wc.heap.size ∧ w.heap.size + 1 < wc.heap.size from ⟨heap_lt' hG, heap_lt' hS, by have := HL3.out; have := hb5.size; omega⟩)
  have HW := Lib.hid (below_seq HB3.out hb5 HB3.out.size)
  clear hb5 hS hG hK hA hKl HK HA HB3 HB1 HB0
  have HKN := Lib.hid (known4_any wc.drew (by obtain ⟨gt, gfr, hg⟩ := HOP.out; exact ⟨gt, gfr, (HW.out.block _ (heap_lt' hg)).trans hg⟩))
  obtain ⟨e0, e1, e2⟩ := HS0.out
  have hwr : IntKind.i64.wrap (9 : Int) = 9 := by decide
  go_region_held3 (fun w' => w'.cell? ⟨w3.heap.size + 1, 0, none⟩ = some (.int .i64 0) ∧ w'.cell? ⟨w3.heap.size, 0, none⟩ = some (.int .i64 1) ∧ w'.cell? ⟨w.heap.size + 1, 13, none⟩ = some (.int .i64 1)) (first | exact HS0.out | exact HS4.out) (first
    | (go_at_call 8; (with_reducible refine Calls.mono HKN.out ?_); rintro e w4 ⟨rfl, hb4⟩; have HB4 := Lib.hid (below_seq ((Below.refl wc.heap.size wc).drew) hb4 (Nat.le_refl _)); have HS4 : Hid (w4.cell? ⟨w3.heap.size + 1, 0, none⟩ = some (.int .i64 0) ∧ w4.cell? ⟨w3.heap.size, 0, none⟩ = some (.int .i64 1) ∧ w4.cell? ⟨w.heap.size + 1, 13, none⟩ = some (.int .i64 1)) := Lib.hid ⟨(HB4.out.cell (p := ⟨w3.heap.size + 1, 0, none⟩) HLT.out.1).trans HS0.out.1, (HB4.out.cell (p := ⟨w3.heap.size, 0, none⟩) HLT.out.2.1).trans HS0.out.2.1, (HB4.out.cell (p := ⟨w.heap.size + 1, 13, none⟩) HLT.out.2.2).trans HS0.out.2.2⟩; clear hb4 HKN))
  go_wp2_with fail
  go_ret
  exact ⟨rfl, below_seq HW.out HB4.out HW.out.size⟩

def oddU14 : List Ln.Lx.Tk := (Ln.Lx.toks [118, 97, 114, 32, 120, 58, 32, 91, 91, 91, 91, 105, 110, 116, 93, 93, 93, 93, 59]).1
set_option maxRecDepth 40000 in
theorem oddT14 : Ln.Lx.toks [118, 97, 114, 32, 120, 58, 32, 91, 91, 91, 91, 105, 110, 116, 93, 93, 93, 93, 59] = (oddU14, 0, 0) := by kernel_rfl
theorem oddN14 : oddU14.length = 14 := by kernel_rfl
set_option maxRecDepth 40000 in
theorem oddP14 : oddly oddU14 14 = some (0, 0, 4, 10) := by kernel_rfl
theorem oddS14 : ∀ t ∈ oddU14, t.text.length ≤ 281474976710656 := by
  have h : (oddU14.all fun t => decide (t.text.length ≤ 281474976710656)) = true := by kernel_rfl
  exact fun t ht => of_decide_eq_true (List.all_eq_true.1 h t ht)

set_option maxRecDepth 40000 in
set_option maxHeartbeats 8000000 in
theorem odd4_14 (w : World) (hops : OpsIn w) :
    Calls Tryd.prog 4 #[.int .i64 14] w fun e w' => e = .returned (.bool true) ∧ Below w.heap.size w w' := by
  obtain ⟨m, hm, hmk⟩ := oddly_out oddP14
  have HM := Lib.hid hm
  have HMK := Lib.hid hmk
  have HOP := Lib.hid hops
  obtain ⟨w0, hw0⟩ : ∃ w0, w0 = ((w.alloc (.cells #[.string ⟨#[120, 59]⟩, .string ⟨#[120, 32, 43, 32, 49, 59]⟩, .string ⟨#[120, 46, 102, 32, 61, 32, 50, 59]⟩, .string ⟨#[120, 91, 49, 93, 32, 61, 32, 50, 59]⟩, .string ⟨#[102, 40, 41, 32, 61, 32, 50, 59]⟩, .string ⟨#[49, 32, 61, 32, 50, 59]⟩, .string ⟨#[102, 40, 49, 41, 59]⟩, .string ⟨#[40, 120, 41, 32, 61, 32, 49, 59]⟩, .string ⟨#[45, 120, 32, 61, 32, 49, 59]⟩, .string ⟨#[114, 101, 116, 117, 114, 110]⟩, .string ⟨#[114, 101, 116, 117, 114, 110, 59]⟩, .string ⟨#[114, 101, 116, 117, 114, 110, 32, 49, 59]⟩, .string ⟨#[108, 101, 116, 32, 120, 32, 61, 32, 49, 59]⟩, .string ⟨#[118, 97, 114, 32, 120, 58, 32, 91, 91, 105, 110, 116, 93, 93, 59]⟩, .string ⟨#[118, 97, 114, 32, 120, 58, 32, 91, 91, 91, 91, 105, 110, 116, 93, 93, 93, 93, 59]⟩, .string ⟨#[105, 102, 32, 98, 32, 123, 32, 125, 32, 101, 108, 115, 101, 32, 102, 40, 41, 59]⟩, .string ⟨#[112, 114, 105, 110, 116, 59]⟩, .string ⟨#[119, 104, 105, 108, 101, 32, 123, 32, 125]⟩, .string ⟨#[120, 32, 61, 32, 59]⟩, .string ⟨#[102, 40, 41, 46, 103, 32, 61, 32, 49, 59]⟩] 9)).alloc (.cells #[.int .i64 0, .int .i64 0, .int .i64 4, .int .i64 4, .int .i64 0, .int .i64 0, .int .i64 9, .int .i64 3, .int .i64 0, .int .i64 0, .int .i64 7, .int .i64 7, .int .i64 0, .int .i64 1, .int .i64 0, .int .i64 0, .int .i64 0, .int .i64 0, .int .i64 0, .int .i64 4] 3)).alloc (.cells #[.int .i64 1, .int .i64 5, .int .i64 0, .int .i64 0, .int .i64 4, .int .i64 2, .int .i64 0, .int .i64 0, .int .i64 3, .int .i64 6, .int .i64 0, .int .i64 0, .int .i64 6, .int .i64 0, .int .i64 10, .int .i64 14, .int .i64 5, .int .i64 6, .int .i64 4, .int .i64 0] 3) := ⟨_, rfl⟩
  have hb0 : Below w.heap.size w w0 := by rw [hw0]; exact (((Below.refl _ _).alloc (Nat.le_refl _) _).alloc (by simp only [size_alloc]; omega) _).alloc (by simp only [size_alloc]; omega) _
  have hkK : w0.heap[w.heap.size + 1]? = some (.cells #[.int .i64 0, .int .i64 0, .int .i64 4, .int .i64 4, .int .i64 0, .int .i64 0, .int .i64 9, .int .i64 3, .int .i64 0, .int .i64 0, .int .i64 7, .int .i64 7, .int .i64 0, .int .i64 1, .int .i64 0, .int .i64 0, .int .i64 0, .int .i64 0, .int .i64 0, .int .i64 4] 3 (0, 0)) := by rw [hw0]; have := heap_alloc_new (w.alloc (.cells #[.string ⟨#[120, 59]⟩, .string ⟨#[120, 32, 43, 32, 49, 59]⟩, .string ⟨#[120, 46, 102, 32, 61, 32, 50, 59]⟩, .string ⟨#[120, 91, 49, 93, 32, 61, 32, 50, 59]⟩, .string ⟨#[102, 40, 41, 32, 61, 32, 50, 59]⟩, .string ⟨#[49, 32, 61, 32, 50, 59]⟩, .string ⟨#[102, 40, 49, 41, 59]⟩, .string ⟨#[40, 120, 41, 32, 61, 32, 49, 59]⟩, .string ⟨#[45, 120, 32, 61, 32, 49, 59]⟩, .string ⟨#[114, 101, 116, 117, 114, 110]⟩, .string ⟨#[114, 101, 116, 117, 114, 110, 59]⟩, .string ⟨#[114, 101, 116, 117, 114, 110, 32, 49, 59]⟩, .string ⟨#[108, 101, 116, 32, 120, 32, 61, 32, 49, 59]⟩, .string ⟨#[118, 97, 114, 32, 120, 58, 32, 91, 91, 105, 110, 116, 93, 93, 59]⟩, .string ⟨#[118, 97, 114, 32, 120, 58, 32, 91, 91, 91, 91, 105, 110, 116, 93, 93, 93, 93, 59]⟩, .string ⟨#[105, 102, 32, 98, 32, 123, 32, 125, 32, 101, 108, 115, 101, 32, 102, 40, 41, 59]⟩, .string ⟨#[112, 114, 105, 110, 116, 59]⟩, .string ⟨#[119, 104, 105, 108, 101, 32, 123, 32, 125]⟩, .string ⟨#[120, 32, 61, 32, 59]⟩, .string ⟨#[102, 40, 41, 46, 103, 32, 61, 32, 49, 59]⟩] 9)) (.cells #[.int .i64 0, .int .i64 0, .int .i64 4, .int .i64 4, .int .i64 0, .int .i64 0, .int .i64 9, .int .i64 3, .int .i64 0, .int .i64 0, .int .i64 7, .int .i64 7, .int .i64 0, .int .i64 1, .int .i64 0, .int .i64 0, .int .i64 0, .int .i64 0, .int .i64 0, .int .i64 4] 3); rw [size_alloc] at this; exact alloc_box _ this
  have hkA : w0.heap[w.heap.size + 1 + 1]? = some (.cells #[.int .i64 1, .int .i64 5, .int .i64 0, .int .i64 0, .int .i64 4, .int .i64 2, .int .i64 0, .int .i64 0, .int .i64 3, .int .i64 6, .int .i64 0, .int .i64 0, .int .i64 6, .int .i64 0, .int .i64 10, .int .i64 14, .int .i64 5, .int .i64 6, .int .i64 4, .int .i64 0] 3 (0, 0)) := by rw [hw0]; have := heap_alloc_new ((w.alloc (.cells #[.string ⟨#[120, 59]⟩, .string ⟨#[120, 32, 43, 32, 49, 59]⟩, .string ⟨#[120, 46, 102, 32, 61, 32, 50, 59]⟩, .string ⟨#[120, 91, 49, 93, 32, 61, 32, 50, 59]⟩, .string ⟨#[102, 40, 41, 32, 61, 32, 50, 59]⟩, .string ⟨#[49, 32, 61, 32, 50, 59]⟩, .string ⟨#[102, 40, 49, 41, 59]⟩, .string ⟨#[40, 120, 41, 32, 61, 32, 49, 59]⟩, .string ⟨#[45, 120, 32, 61, 32, 49, 59]⟩, .string ⟨#[114, 101, 116, 117, 114, 110]⟩, .string ⟨#[114, 101, 116, 117, 114, 110, 59]⟩, .string ⟨#[114, 101, 116, 117, 114, 110, 32, 49, 59]⟩, .string ⟨#[108, 101, 116, 32, 120, 32, 61, 32, 49, 59]⟩, .string ⟨#[118, 97, 114, 32, 120, 58, 32, 91, 91, 105, 110, 116, 93, 93, 59]⟩, .string ⟨#[118, 97, 114, 32, 120, 58, 32, 91, 91, 91, 91, 105, 110, 116, 93, 93, 93, 93, 59]⟩, .string ⟨#[105, 102, 32, 98, 32, 123, 32, 125, 32, 101, 108, 115, 101, 32, 102, 40, 41, 59]⟩, .string ⟨#[112, 114, 105, 110, 116, 59]⟩, .string ⟨#[119, 104, 105, 108, 101, 32, 123, 32, 125]⟩, .string ⟨#[120, 32, 61, 32, 59]⟩, .string ⟨#[102, 40, 41, 46, 103, 32, 61, 32, 49, 59]⟩] 9)).alloc (.cells #[.int .i64 0, .int .i64 0, .int .i64 4, .int .i64 4, .int .i64 0, .int .i64 0, .int .i64 9, .int .i64 3, .int .i64 0, .int .i64 0, .int .i64 7, .int .i64 7, .int .i64 0, .int .i64 1, .int .i64 0, .int .i64 0, .int .i64 0, .int .i64 0, .int .i64 0, .int .i64 4] 3)) (.cells #[.int .i64 1, .int .i64 5, .int .i64 0, .int .i64 0, .int .i64 4, .int .i64 2, .int .i64 0, .int .i64 0, .int .i64 3, .int .i64 6, .int .i64 0, .int .i64 0, .int .i64 6, .int .i64 0, .int .i64 10, .int .i64 14, .int .i64 5, .int .i64 6, .int .i64 4, .int .i64 0] 3); simp only [size_alloc] at this; exact this
  have HKK := Lib.hid hkK
  have HKA := Lib.hid hkA
  have HB0 := Lib.hid hb0
  clear hm hmk hops hkK hkA hb0
  go_enter Tryd.func4, Tryd.ntmps4
  go_wp2_with fail
  rw [← hw0]
  clear hw0
  have htk := tokens_are ⟨#[118, 97, 114, 32, 120, 58, 32, 91, 91, 91, 91, 105, 110, 116, 93, 93, 93, 93, 59]⟩ (by decide) oddU14 0 0 oddT14 w0
  rw [oddN14] at htk
  refine (htk).mono ?_
  clear htk
  rintro e w1 ⟨A, cA, rfl, hl1, hb1⟩
  have hbf : Below w1.heap.size w1 (w1.alloc (.cells #[.int .i64 0, .int .i64 0] 25)) := (Below.refl _ _).alloc (Nat.le_refl _) _
  have ht := (toks_of (c := cA) hl1 oddS14).below hbf
  rw [oddN14] at ht
  have HT := Lib.hid ht
  have hb01 := below_seq hb1 hbf hb1.size
  have HB1 := Lib.hid (below_seq HB0.out hb01 HB0.out.size)
  have HKK1 := Lib.hid ((hb01.block _ (heap_lt' HKK.out)).trans HKK.out)
  have HKA1 := Lib.hid ((hb01.block _ (heap_lt' HKA.out)).trans HKA.out)
  clear ht hl1 hb1 hbf hb01 HKK HKA
  go_wp2_with fail
  have hlen : (oddU14.map toRT).length ≤ 90000000 := by rw [List.length_map, oddN14]; decide
  refine (stParse_any _ _ _ (oddU14.map toRT) (pxBy oddU14 (10 * 14 + 20)) (pok_of hlen (pxBy_is oddN14 (by decide))) 0 0 HT.out (by obtain ⟨gt, gfr, hg⟩ := HOP.out; exact ⟨gt, gfr, (HB1.out.block _ (heap_lt' hg)).trans hg⟩) (10 * 14 + 20) (by decide) _ HM.out).mono ?_
  rintro e w3 ⟨sk, sn, so, sd, sep, sel, sec, sbp, sbl, sbc, slp, sll, slc, sa, sr, rfl, hs, hb3⟩
  have hsk := hs.kindM
  clear hsk
  have hKr := (hb3.block _ (heap_lt' HKK1.out)).trans HKK1.out
  have hK : w3.cell? ⟨w.heap.size + 1, 14, none⟩ = some (.int .i64 0) := by rw [cell_of_row _ _ _ _ _ _ hKr]; rfl
  have hKl := heap_lt' hKr
  have hAr := (hb3.block _ (heap_lt' HKA1.out)).trans HKA1.out
  have HA := Lib.hid hAr
  have HK := Lib.hid hK
  have HL3 := Lib.hid (heap_lt' hAr)
  have HB3 := Lib.hid (below_seq HB1.out hb3 HB1.out.size)
  clear hs hb3 hKr hAr HT HKK1 HKA1 hlen
  dsimp only
  have hKw : ((w3.alloc (.cells #[.int .i64 sk, .string (cbs sn), .string (cbs so), .int .i64 sd, .slice sep sel sec, .slice sbp sbl sbc, .slice slp sll slc, .int .i64 sa, .int .i64 sr] 33)).alloc (.cells #[.int .i64 4, .int .i64 10] 25)).cell? ⟨w.heap.size + 1, 14, none⟩ = some (.int .i64 0) :=
    ((((Below.refl _ _).alloc (Nat.le_refl _) _).alloc (by rw [size_alloc]; omega) _ : Below w3.heap.size w3 ((w3.alloc (.cells #[.int .i64 sk, .string (cbs sn), .string (cbs so), .int .i64 sd, .slice sep sel sec, .slice sbp sbl sbc, .slice slp sll slc, .int .i64 sa, .int .i64 sr] 33)).alloc (.cells #[.int .i64 4, .int .i64 10] 25))).cell (p := ⟨w.heap.size + 1, 14, none⟩) hKl).trans hK
  go_wp2_with fail
  clear hK hKw
  obtain ⟨wc, hwc⟩ : ∃ wc, wc = (w3.alloc (.cells #[.int .i64 sk, .string (cbs sn), .string (cbs so), .int .i64 sd, .slice sep sel sec, .slice sbp sbl sbc, .slice slp sll slc, .int .i64 sa, .int .i64 sr] 33)).alloc (.cells #[.int .i64 4, .int .i64 10] 25) := ⟨_, rfl⟩
  try rw [← hwc]
  have hb5 : Below w3.heap.size w3 wc := by rw [hwc]; exact ((Below.refl _ _).alloc (Nat.le_refl _) _).alloc (by rw [size_alloc]; omega) _
  have hS : wc.heap[w3.heap.size]? = some (.cells #[.int .i64 sk, .string (cbs sn), .string (cbs so), .int .i64 sd, .slice sep sel sec, .slice sbp sbl sbc, .slice slp sll slc, .int .i64 sa, .int .i64 sr] 33 (0, 0)) := by rw [hwc]; exact alloc_box _ (heap_alloc_new w3 _)
  have hG : wc.heap[w3.heap.size + 1]? = some (.cells #[.int .i64 4, .int .i64 10] 25 (0, 0)) := by rw [hwc]; have := heap_alloc_new (w3.alloc (.cells #[.int .i64 sk, .string (cbs sn), .string (cbs so), .int .i64 sd, .slice sep sel sec, .slice sbp sbl sbc, .slice slp sll slc, .int .i64 sa, .int .i64 sr] 33)) (.cells #[.int .i64 4, .int .i64 10] 25); rw [size_alloc] at this; exact this
  clear hwc
  have hK := (hb5.cell (p := ⟨w.heap.size + 1, 14, none⟩) hKl).trans HK.out
  have hA : wc.cell? ⟨w.heap.size + 1 + 1, 14, none⟩ = some (.int .i64 10) := by rw [cell_of_row _ _ _ _ _ _ ((hb5.block _ HL3.out).trans HA.out)]; rfl
  have HS0 : Hid (wc.cell? ⟨w3.heap.size + 1, 0, none⟩ = some (.int .i64 4) ∧ wc.cell? ⟨w3.heap.size + 1, 1, none⟩ = some (.int .i64 10) ∧ wc.cell? ⟨w.heap.size + 1 + 1, 14, none⟩ = some (.int .i64 10)) := Lib.hid ⟨(duo hG).1.1, (duo hG).1.2, hA⟩
  have HLT := Lib.hid (show w3.heap.size + 1 < wc.heap.size ∧ w3.heap.size + 1 < wc.heap.size ∧ w.heap.size + 1 + 1 < wc.heap.size from ⟨heap_lt' hG, heap_lt' hG, by have := HL3.out; have := hb5.size; omega⟩)
  have HW := Lib.hid (below_seq HB3.out hb5 HB3.out.size)
  clear hb5 hS hG hK hA hKl HK HA HB3 HB1 HB0
  have HKN := Lib.hid (known4_any wc.drew (by obtain ⟨gt, gfr, hg⟩ := HOP.out; exact ⟨gt, gfr, (HW.out.block _ (heap_lt' hg)).trans hg⟩))
  obtain ⟨e0, e1, e2⟩ := HS0.out
  have hq := eq_f2 4 10 4 10
  go_region_held3 (fun w' => w'.cell? ⟨w3.heap.size + 1, 0, none⟩ = some (.int .i64 4) ∧ w'.cell? ⟨w3.heap.size + 1, 1, none⟩ = some (.int .i64 10) ∧ w'.cell? ⟨w.heap.size + 1 + 1, 14, none⟩ = some (.int .i64 10)) (first | exact HS0.out | exact HS4.out) (first
    | (go_at_call 8; (with_reducible refine Calls.mono HKN.out ?_); rintro e w4 ⟨rfl, hb4⟩; have HB4 := Lib.hid (below_seq ((Below.refl wc.heap.size wc).drew) hb4 (Nat.le_refl _)); have HS4 : Hid (w4.cell? ⟨w3.heap.size + 1, 0, none⟩ = some (.int .i64 4) ∧ w4.cell? ⟨w3.heap.size + 1, 1, none⟩ = some (.int .i64 10) ∧ w4.cell? ⟨w.heap.size + 1 + 1, 14, none⟩ = some (.int .i64 10)) := Lib.hid ⟨(HB4.out.cell (p := ⟨w3.heap.size + 1, 0, none⟩) HLT.out.1).trans HS0.out.1, (HB4.out.cell (p := ⟨w3.heap.size + 1, 1, none⟩) HLT.out.2.1).trans HS0.out.2.1, (HB4.out.cell (p := ⟨w.heap.size + 1 + 1, 14, none⟩) HLT.out.2.2).trans HS0.out.2.2⟩; clear hb4 HKN))
  go_wp2_with fail
  go_ret
  exact ⟨rfl, below_seq HW.out HB4.out HW.out.size⟩

def oddU15 : List Ln.Lx.Tk := (Ln.Lx.toks [105, 102, 32, 98, 32, 123, 32, 125, 32, 101, 108, 115, 101, 32, 102, 40, 41, 59]).1
set_option maxRecDepth 40000 in
theorem oddT15 : Ln.Lx.toks [105, 102, 32, 98, 32, 123, 32, 125, 32, 101, 108, 115, 101, 32, 102, 40, 41, 59] = (oddU15, 0, 0) := by kernel_rfl
theorem oddN15 : oddU15.length = 10 := by kernel_rfl
set_option maxRecDepth 40000 in
theorem oddP15 : oddly oddU15 10 = some (0, 0, 2, 14) := by kernel_rfl
theorem oddS15 : ∀ t ∈ oddU15, t.text.length ≤ 281474976710656 := by
  have h : (oddU15.all fun t => decide (t.text.length ≤ 281474976710656)) = true := by kernel_rfl
  exact fun t ht => of_decide_eq_true (List.all_eq_true.1 h t ht)

set_option maxRecDepth 40000 in
set_option maxHeartbeats 8000000 in
theorem odd4_15 (w : World) (hops : OpsIn w) :
    Calls Tryd.prog 4 #[.int .i64 15] w fun e w' => e = .returned (.bool true) ∧ Below w.heap.size w w' := by
  obtain ⟨m, hm, hmk⟩ := oddly_out oddP15
  have HM := Lib.hid hm
  have HMK := Lib.hid hmk
  have HOP := Lib.hid hops
  obtain ⟨w0, hw0⟩ : ∃ w0, w0 = ((w.alloc (.cells #[.string ⟨#[120, 59]⟩, .string ⟨#[120, 32, 43, 32, 49, 59]⟩, .string ⟨#[120, 46, 102, 32, 61, 32, 50, 59]⟩, .string ⟨#[120, 91, 49, 93, 32, 61, 32, 50, 59]⟩, .string ⟨#[102, 40, 41, 32, 61, 32, 50, 59]⟩, .string ⟨#[49, 32, 61, 32, 50, 59]⟩, .string ⟨#[102, 40, 49, 41, 59]⟩, .string ⟨#[40, 120, 41, 32, 61, 32, 49, 59]⟩, .string ⟨#[45, 120, 32, 61, 32, 49, 59]⟩, .string ⟨#[114, 101, 116, 117, 114, 110]⟩, .string ⟨#[114, 101, 116, 117, 114, 110, 59]⟩, .string ⟨#[114, 101, 116, 117, 114, 110, 32, 49, 59]⟩, .string ⟨#[108, 101, 116, 32, 120, 32, 61, 32, 49, 59]⟩, .string ⟨#[118, 97, 114, 32, 120, 58, 32, 91, 91, 105, 110, 116, 93, 93, 59]⟩, .string ⟨#[118, 97, 114, 32, 120, 58, 32, 91, 91, 91, 91, 105, 110, 116, 93, 93, 93, 93, 59]⟩, .string ⟨#[105, 102, 32, 98, 32, 123, 32, 125, 32, 101, 108, 115, 101, 32, 102, 40, 41, 59]⟩, .string ⟨#[112, 114, 105, 110, 116, 59]⟩, .string ⟨#[119, 104, 105, 108, 101, 32, 123, 32, 125]⟩, .string ⟨#[120, 32, 61, 32, 59]⟩, .string ⟨#[102, 40, 41, 46, 103, 32, 61, 32, 49, 59]⟩] 9)).alloc (.cells #[.int .i64 0, .int .i64 0, .int .i64 4, .int .i64 4, .int .i64 0, .int .i64 0, .int .i64 9, .int .i64 3, .int .i64 0, .int .i64 0, .int .i64 7, .int .i64 7, .int .i64 0, .int .i64 1, .int .i64 0, .int .i64 0, .int .i64 0, .int .i64 0, .int .i64 0, .int .i64 4] 3)).alloc (.cells #[.int .i64 1, .int .i64 5, .int .i64 0, .int .i64 0, .int .i64 4, .int .i64 2, .int .i64 0, .int .i64 0, .int .i64 3, .int .i64 6, .int .i64 0, .int .i64 0, .int .i64 6, .int .i64 0, .int .i64 10, .int .i64 14, .int .i64 5, .int .i64 6, .int .i64 4, .int .i64 0] 3) := ⟨_, rfl⟩
  have hb0 : Below w.heap.size w w0 := by rw [hw0]; exact (((Below.refl _ _).alloc (Nat.le_refl _) _).alloc (by simp only [size_alloc]; omega) _).alloc (by simp only [size_alloc]; omega) _
  have hkK : w0.heap[w.heap.size + 1]? = some (.cells #[.int .i64 0, .int .i64 0, .int .i64 4, .int .i64 4, .int .i64 0, .int .i64 0, .int .i64 9, .int .i64 3, .int .i64 0, .int .i64 0, .int .i64 7, .int .i64 7, .int .i64 0, .int .i64 1, .int .i64 0, .int .i64 0, .int .i64 0, .int .i64 0, .int .i64 0, .int .i64 4] 3 (0, 0)) := by rw [hw0]; have := heap_alloc_new (w.alloc (.cells #[.string ⟨#[120, 59]⟩, .string ⟨#[120, 32, 43, 32, 49, 59]⟩, .string ⟨#[120, 46, 102, 32, 61, 32, 50, 59]⟩, .string ⟨#[120, 91, 49, 93, 32, 61, 32, 50, 59]⟩, .string ⟨#[102, 40, 41, 32, 61, 32, 50, 59]⟩, .string ⟨#[49, 32, 61, 32, 50, 59]⟩, .string ⟨#[102, 40, 49, 41, 59]⟩, .string ⟨#[40, 120, 41, 32, 61, 32, 49, 59]⟩, .string ⟨#[45, 120, 32, 61, 32, 49, 59]⟩, .string ⟨#[114, 101, 116, 117, 114, 110]⟩, .string ⟨#[114, 101, 116, 117, 114, 110, 59]⟩, .string ⟨#[114, 101, 116, 117, 114, 110, 32, 49, 59]⟩, .string ⟨#[108, 101, 116, 32, 120, 32, 61, 32, 49, 59]⟩, .string ⟨#[118, 97, 114, 32, 120, 58, 32, 91, 91, 105, 110, 116, 93, 93, 59]⟩, .string ⟨#[118, 97, 114, 32, 120, 58, 32, 91, 91, 91, 91, 105, 110, 116, 93, 93, 93, 93, 59]⟩, .string ⟨#[105, 102, 32, 98, 32, 123, 32, 125, 32, 101, 108, 115, 101, 32, 102, 40, 41, 59]⟩, .string ⟨#[112, 114, 105, 110, 116, 59]⟩, .string ⟨#[119, 104, 105, 108, 101, 32, 123, 32, 125]⟩, .string ⟨#[120, 32, 61, 32, 59]⟩, .string ⟨#[102, 40, 41, 46, 103, 32, 61, 32, 49, 59]⟩] 9)) (.cells #[.int .i64 0, .int .i64 0, .int .i64 4, .int .i64 4, .int .i64 0, .int .i64 0, .int .i64 9, .int .i64 3, .int .i64 0, .int .i64 0, .int .i64 7, .int .i64 7, .int .i64 0, .int .i64 1, .int .i64 0, .int .i64 0, .int .i64 0, .int .i64 0, .int .i64 0, .int .i64 4] 3); rw [size_alloc] at this; exact alloc_box _ this
  have hkA : w0.heap[w.heap.size + 1 + 1]? = some (.cells #[.int .i64 1, .int .i64 5, .int .i64 0, .int .i64 0, .int .i64 4, .int .i64 2, .int .i64 0, .int .i64 0, .int .i64 3, .int .i64 6, .int .i64 0, .int .i64 0, .int .i64 6, .int .i64 0, .int .i64 10, .int .i64 14, .int .i64 5, .int .i64 6, .int .i64 4, .int .i64 0] 3 (0, 0)) := by rw [hw0]; have := heap_alloc_new ((w.alloc (.cells #[.string ⟨#[120, 59]⟩, .string ⟨#[120, 32, 43, 32, 49, 59]⟩, .string ⟨#[120, 46, 102, 32, 61, 32, 50, 59]⟩, .string ⟨#[120, 91, 49, 93, 32, 61, 32, 50, 59]⟩, .string ⟨#[102, 40, 41, 32, 61, 32, 50, 59]⟩, .string ⟨#[49, 32, 61, 32, 50, 59]⟩, .string ⟨#[102, 40, 49, 41, 59]⟩, .string ⟨#[40, 120, 41, 32, 61, 32, 49, 59]⟩, .string ⟨#[45, 120, 32, 61, 32, 49, 59]⟩, .string ⟨#[114, 101, 116, 117, 114, 110]⟩, .string ⟨#[114, 101, 116, 117, 114, 110, 59]⟩, .string ⟨#[114, 101, 116, 117, 114, 110, 32, 49, 59]⟩, .string ⟨#[108, 101, 116, 32, 120, 32, 61, 32, 49, 59]⟩, .string ⟨#[118, 97, 114, 32, 120, 58, 32, 91, 91, 105, 110, 116, 93, 93, 59]⟩, .string ⟨#[118, 97, 114, 32, 120, 58, 32, 91, 91, 91, 91, 105, 110, 116, 93, 93, 93, 93, 59]⟩, .string ⟨#[105, 102, 32, 98, 32, 123, 32, 125, 32, 101, 108, 115, 101, 32, 102, 40, 41, 59]⟩, .string ⟨#[112, 114, 105, 110, 116, 59]⟩, .string ⟨#[119, 104, 105, 108, 101, 32, 123, 32, 125]⟩, .string ⟨#[120, 32, 61, 32, 59]⟩, .string ⟨#[102, 40, 41, 46, 103, 32, 61, 32, 49, 59]⟩] 9)).alloc (.cells #[.int .i64 0, .int .i64 0, .int .i64 4, .int .i64 4, .int .i64 0, .int .i64 0, .int .i64 9, .int .i64 3, .int .i64 0, .int .i64 0, .int .i64 7, .int .i64 7, .int .i64 0, .int .i64 1, .int .i64 0, .int .i64 0, .int .i64 0, .int .i64 0, .int .i64 0, .int .i64 4] 3)) (.cells #[.int .i64 1, .int .i64 5, .int .i64 0, .int .i64 0, .int .i64 4, .int .i64 2, .int .i64 0, .int .i64 0, .int .i64 3, .int .i64 6, .int .i64 0, .int .i64 0, .int .i64 6, .int .i64 0, .int .i64 10, .int .i64 14, .int .i64 5, .int .i64 6, .int .i64 4, .int .i64 0] 3); simp only [size_alloc] at this; exact this
  have HKK := Lib.hid hkK
  have HKA := Lib.hid hkA
  have HB0 := Lib.hid hb0
  clear hm hmk hops hkK hkA hb0
  go_enter Tryd.func4, Tryd.ntmps4
  go_wp2_with fail
  rw [← hw0]
  clear hw0
  have htk := tokens_are ⟨#[105, 102, 32, 98, 32, 123, 32, 125, 32, 101, 108, 115, 101, 32, 102, 40, 41, 59]⟩ (by decide) oddU15 0 0 oddT15 w0
  rw [oddN15] at htk
  refine (htk).mono ?_
  clear htk
  rintro e w1 ⟨A, cA, rfl, hl1, hb1⟩
  have hbf : Below w1.heap.size w1 (w1.alloc (.cells #[.int .i64 0, .int .i64 0] 25)) := (Below.refl _ _).alloc (Nat.le_refl _) _
  have ht := (toks_of (c := cA) hl1 oddS15).below hbf
  rw [oddN15] at ht
  have HT := Lib.hid ht
  have hb01 := below_seq hb1 hbf hb1.size
  have HB1 := Lib.hid (below_seq HB0.out hb01 HB0.out.size)
  have HKK1 := Lib.hid ((hb01.block _ (heap_lt' HKK.out)).trans HKK.out)
  have HKA1 := Lib.hid ((hb01.block _ (heap_lt' HKA.out)).trans HKA.out)
  clear ht hl1 hb1 hbf hb01 HKK HKA
  go_wp2_with fail
  have hlen : (oddU15.map toRT).length ≤ 90000000 := by rw [List.length_map, oddN15]; decide
  refine (stParse_any _ _ _ (oddU15.map toRT) (pxBy oddU15 (10 * 10 + 20)) (pok_of hlen (pxBy_is oddN15 (by decide))) 0 0 HT.out (by obtain ⟨gt, gfr, hg⟩ := HOP.out; exact ⟨gt, gfr, (HB1.out.block _ (heap_lt' hg)).trans hg⟩) (10 * 10 + 20) (by decide) _ HM.out).mono ?_
  rintro e w3 ⟨sk, sn, so, sd, sep, sel, sec, sbp, sbl, sbc, slp, sll, slc, sa, sr, rfl, hs, hb3⟩
  have hsk := hs.kindM
  clear hsk
  have hKr := (hb3.block _ (heap_lt' HKK1.out)).trans HKK1.out
  have hK : w3.cell? ⟨w.heap.size + 1, 15, none⟩ = some (.int .i64 0) := by rw [cell_of_row _ _ _ _ _ _ hKr]; rfl
  have hKl := heap_lt' hKr
  have hAr := (hb3.block _ (heap_lt' HKA1.out)).trans HKA1.out
  have HA := Lib.hid hAr
  have HK := Lib.hid hK
  have HL3 := Lib.hid (heap_lt' hAr)
  have HB3 := Lib.hid (below_seq HB1.out hb3 HB1.out.size)
  clear hs hb3 hKr hAr HT HKK1 HKA1 hlen
  dsimp only
  have hKw : ((w3.alloc (.cells #[.int .i64 sk, .string (cbs sn), .string (cbs so), .int .i64 sd, .slice sep sel sec, .slice sbp sbl sbc, .slice slp sll slc, .int .i64 sa, .int .i64 sr] 33)).alloc (.cells #[.int .i64 2, .int .i64 14] 25)).cell? ⟨w.heap.size + 1, 15, none⟩ = some (.int .i64 0) :=
    ((((Below.refl _ _).alloc (Nat.le_refl _) _).alloc (by rw [size_alloc]; omega) _ : Below w3.heap.size w3 ((w3.alloc (.cells #[.int .i64 sk, .string (cbs sn), .string (cbs so), .int .i64 sd, .slice sep sel sec, .slice sbp sbl sbc, .slice slp sll slc, .int .i64 sa, .int .i64 sr] 33)).alloc (.cells #[.int .i64 2, .int .i64 14] 25))).cell (p := ⟨w.heap.size + 1, 15, none⟩) hKl).trans hK
  go_wp2_with fail
  clear hK hKw
  obtain ⟨wc, hwc⟩ : ∃ wc, wc = (w3.alloc (.cells #[.int .i64 sk, .string (cbs sn), .string (cbs so), .int .i64 sd, .slice sep sel sec, .slice sbp sbl sbc, .slice slp sll slc, .int .i64 sa, .int .i64 sr] 33)).alloc (.cells #[.int .i64 2, .int .i64 14] 25) := ⟨_, rfl⟩
  try rw [← hwc]
  have hb5 : Below w3.heap.size w3 wc := by rw [hwc]; exact ((Below.refl _ _).alloc (Nat.le_refl _) _).alloc (by rw [size_alloc]; omega) _
  have hS : wc.heap[w3.heap.size]? = some (.cells #[.int .i64 sk, .string (cbs sn), .string (cbs so), .int .i64 sd, .slice sep sel sec, .slice sbp sbl sbc, .slice slp sll slc, .int .i64 sa, .int .i64 sr] 33 (0, 0)) := by rw [hwc]; exact alloc_box _ (heap_alloc_new w3 _)
  have hG : wc.heap[w3.heap.size + 1]? = some (.cells #[.int .i64 2, .int .i64 14] 25 (0, 0)) := by rw [hwc]; have := heap_alloc_new (w3.alloc (.cells #[.int .i64 sk, .string (cbs sn), .string (cbs so), .int .i64 sd, .slice sep sel sec, .slice sbp sbl sbc, .slice slp sll slc, .int .i64 sa, .int .i64 sr] 33)) (.cells #[.int .i64 2, .int .i64 14] 25); rw [size_alloc] at this; exact this
  clear hwc
  have hK := (hb5.cell (p := ⟨w.heap.size + 1, 15, none⟩) hKl).trans HK.out
  have hA : wc.cell? ⟨w.heap.size + 1 + 1, 15, none⟩ = some (.int .i64 14) := by rw [cell_of_row _ _ _ _ _ _ ((hb5.block _ HL3.out).trans HA.out)]; rfl
  have HS0 : Hid (wc.cell? ⟨w3.heap.size + 1, 0, none⟩ = some (.int .i64 2) ∧ wc.cell? ⟨w3.heap.size + 1, 1, none⟩ = some (.int .i64 14) ∧ wc.cell? ⟨w.heap.size + 1 + 1, 15, none⟩ = some (.int .i64 14)) := Lib.hid ⟨(duo hG).1.1, (duo hG).1.2, hA⟩
  have HLT := Lib.hid (show w3.heap.size + 1 < wc.heap.size ∧ w3.heap.size + 1 < wc.heap.size ∧ w.heap.size + 1 + 1 < wc.heap.size from ⟨heap_lt' hG, heap_lt' hG, by have := HL3.out; have := hb5.size; omega⟩)
  have HW := Lib.hid (below_seq HB3.out hb5 HB3.out.size)
  clear hb5 hS hG hK hA hKl HK HA HB3 HB1 HB0
  have HKN := Lib.hid (known4_any wc.drew (by obtain ⟨gt, gfr, hg⟩ := HOP.out; exact ⟨gt, gfr, (HW.out.block _ (heap_lt' hg)).trans hg⟩))
  obtain ⟨e0, e1, e2⟩ := HS0.out
  have hq := eq_f2 2 14 2 14
  go_region_held3 (fun w' => w'.cell? ⟨w3.heap.size + 1, 0, none⟩ = some (.int .i64 2) ∧ w'.cell? ⟨w3.heap.size + 1, 1, none⟩ = some (.int .i64 14) ∧ w'.cell? ⟨w.heap.size + 1 + 1, 15, none⟩ = some (.int .i64 14)) (first | exact HS0.out | exact HS4.out) (first
    | (go_at_call 8; (with_reducible refine Calls.mono HKN.out ?_); rintro e w4 ⟨rfl, hb4⟩; have HB4 := Lib.hid (below_seq ((Below.refl wc.heap.size wc).drew) hb4 (Nat.le_refl _)); have HS4 : Hid (w4.cell? ⟨w3.heap.size + 1, 0, none⟩ = some (.int .i64 2) ∧ w4.cell? ⟨w3.heap.size + 1, 1, none⟩ = some (.int .i64 14) ∧ w4.cell? ⟨w.heap.size + 1 + 1, 15, none⟩ = some (.int .i64 14)) := Lib.hid ⟨(HB4.out.cell (p := ⟨w3.heap.size + 1, 0, none⟩) HLT.out.1).trans HS0.out.1, (HB4.out.cell (p := ⟨w3.heap.size + 1, 1, none⟩) HLT.out.2.1).trans HS0.out.2.1, (HB4.out.cell (p := ⟨w.heap.size + 1 + 1, 15, none⟩) HLT.out.2.2).trans HS0.out.2.2⟩; clear hb4 HKN))
  go_wp2_with fail
  go_ret
  exact ⟨rfl, below_seq HW.out HB4.out HW.out.size⟩

def oddU16 : List Ln.Lx.Tk := (Ln.Lx.toks [112, 114, 105, 110, 116, 59]).1
set_option maxRecDepth 40000 in
theorem oddT16 : Ln.Lx.toks [112, 114, 105, 110, 116, 59] = (oddU16, 0, 0) := by kernel_rfl
theorem oddN16 : oddU16.length = 3 := by kernel_rfl
set_option maxRecDepth 40000 in
theorem oddP16 : oddly oddU16 3 = some (0, 0, 2, 5) := by kernel_rfl
theorem oddS16 : ∀ t ∈ oddU16, t.text.length ≤ 281474976710656 := by
  have h : (oddU16.all fun t => decide (t.text.length ≤ 281474976710656)) = true := by kernel_rfl
  exact fun t ht => of_decide_eq_true (List.all_eq_true.1 h t ht)

set_option maxRecDepth 40000 in
set_option maxHeartbeats 8000000 in
theorem odd4_16 (w : World) (hops : OpsIn w) :
    Calls Tryd.prog 4 #[.int .i64 16] w fun e w' => e = .returned (.bool true) ∧ Below w.heap.size w w' := by
  obtain ⟨m, hm, hmk⟩ := oddly_out oddP16
  have HM := Lib.hid hm
  have HMK := Lib.hid hmk
  have HOP := Lib.hid hops
  obtain ⟨w0, hw0⟩ : ∃ w0, w0 = ((w.alloc (.cells #[.string ⟨#[120, 59]⟩, .string ⟨#[120, 32, 43, 32, 49, 59]⟩, .string ⟨#[120, 46, 102, 32, 61, 32, 50, 59]⟩, .string ⟨#[120, 91, 49, 93, 32, 61, 32, 50, 59]⟩, .string ⟨#[102, 40, 41, 32, 61, 32, 50, 59]⟩, .string ⟨#[49, 32, 61, 32, 50, 59]⟩, .string ⟨#[102, 40, 49, 41, 59]⟩, .string ⟨#[40, 120, 41, 32, 61, 32, 49, 59]⟩, .string ⟨#[45, 120, 32, 61, 32, 49, 59]⟩, .string ⟨#[114, 101, 116, 117, 114, 110]⟩, .string ⟨#[114, 101, 116, 117, 114, 110, 59]⟩, .string ⟨#[114, 101, 116, 117, 114, 110, 32, 49, 59]⟩, .string ⟨#[108, 101, 116, 32, 120, 32, 61, 32, 49, 59]⟩, .string ⟨#[118, 97, 114, 32, 120, 58, 32, 91, 91, 105, 110, 116, 93, 93, 59]⟩, .string ⟨#[118, 97, 114, 32, 120, 58, 32, 91, 91, 91, 91, 105, 110, 116, 93, 93, 93, 93, 59]⟩, .string ⟨#[105, 102, 32, 98, 32, 123, 32, 125, 32, 101, 108, 115, 101, 32, 102, 40, 41, 59]⟩, .string ⟨#[112, 114, 105, 110, 116, 59]⟩, .string ⟨#[119, 104, 105, 108, 101, 32, 123, 32, 125]⟩, .string ⟨#[120, 32, 61, 32, 59]⟩, .string ⟨#[102, 40, 41, 46, 103, 32, 61, 32, 49, 59]⟩] 9)).alloc (.cells #[.int .i64 0, .int .i64 0, .int .i64 4, .int .i64 4, .int .i64 0, .int .i64 0, .int .i64 9, .int .i64 3, .int .i64 0, .int .i64 0, .int .i64 7, .int .i64 7, .int .i64 0, .int .i64 1, .int .i64 0, .int .i64 0, .int .i64 0, .int .i64 0, .int .i64 0, .int .i64 4] 3)).alloc (.cells #[.int .i64 1, .int .i64 5, .int .i64 0, .int .i64 0, .int .i64 4, .int .i64 2, .int .i64 0, .int .i64 0, .int .i64 3, .int .i64 6, .int .i64 0, .int .i64 0, .int .i64 6, .int .i64 0, .int .i64 10, .int .i64 14, .int .i64 5, .int .i64 6, .int .i64 4, .int .i64 0] 3) := ⟨_, rfl⟩
  have hb0 : Below w.heap.size w w0 := by rw [hw0]; exact (((Below.refl _ _).alloc (Nat.le_refl _) _).alloc (by simp only [size_alloc]; omega) _).alloc (by simp only [size_alloc]; omega) _
  have hkK : w0.heap[w.heap.size + 1]? = some (.cells #[.int .i64 0, .int .i64 0, .int .i64 4, .int .i64 4, .int .i64 0, .int .i64 0, .int .i64 9, .int .i64 3, .int .i64 0, .int .i64 0, .int .i64 7, .int .i64 7, .int .i64 0, .int .i64 1, .int .i64 0, .int .i64 0, .int .i64 0, .int .i64 0, .int .i64 0, .int .i64 4] 3 (0, 0)) := by rw [hw0]; have := heap_alloc_new (w.alloc (.cells #[.string ⟨#[120, 59]⟩, .string ⟨#[120, 32, 43, 32, 49, 59]⟩, .string ⟨#[120, 46, 102, 32, 61, 32, 50, 59]⟩, .string ⟨#[120, 91, 49, 93, 32, 61, 32, 50, 59]⟩, .string ⟨#[102, 40, 41, 32, 61, 32, 50, 59]⟩, .string ⟨#[49, 32, 61, 32, 50, 59]⟩, .string ⟨#[102, 40, 49, 41, 59]⟩, .string ⟨#[40, 120, 41, 32, 61, 32, 49, 59]⟩, .string ⟨#[45, 120, 32, 61, 32, 49, 59]⟩, .string ⟨#[114, 101, 116, 117, 114, 110]⟩, .string ⟨#[114, 101, 116, 117, 114, 110, 59]⟩, .string ⟨#[114, 101, 116, 117, 114, 110, 32, 49, 59]⟩, .string ⟨#[108, 101, 116, 32, 120, 32, 61, 32, 49, 59]⟩, .string ⟨#[118, 97, 114, 32, 120, 58, 32, 91, 91, 105, 110, 116, 93, 93, 59]⟩, .string ⟨#[118, 97, 114, 32, 120, 58, 32, 91, 91, 91, 91, 105, 110, 116, 93, 93, 93, 93, 59]⟩, .string ⟨#[105, 102, 32, 98, 32, 123, 32, 125, 32, 101, 108, 115, 101, 32, 102, 40, 41, 59]⟩, .string ⟨#[112, 114, 105, 110, 116, 59]⟩, .string ⟨#[119, 104, 105, 108, 101, 32, 123, 32, 125]⟩, .string ⟨#[120, 32, 61, 32, 59]⟩, .string ⟨#[102, 40, 41, 46, 103, 32, 61, 32, 49, 59]⟩] 9)) (.cells #[.int .i64 0, .int .i64 0, .int .i64 4, .int .i64 4, .int .i64 0, .int .i64 0, .int .i64 9, .int .i64 3, .int .i64 0, .int .i64 0, .int .i64 7, .int .i64 7, .int .i64 0, .int .i64 1, .int .i64 0, .int .i64 0, .int .i64 0, .int .i64 0, .int .i64 0, .int .i64 4] 3); rw [size_alloc] at this; exact alloc_box _ this
  have hkA : w0.heap[w.heap.size + 1 + 1]? = some (.cells #[.int .i64 1, .int .i64 5, .int .i64 0, .int .i64 0, .int .i64 4, .int .i64 2, .int .i64 0, .int .i64 0, .int .i64 3, .int .i64 6, .int .i64 0, .int .i64 0, .int .i64 6, .int .i64 0, .int .i64 10, .int .i64 14, .int .i64 5, .int .i64 6, .int .i64 4, .int .i64 0] 3 (0, 0)) := by rw [hw0]; have := heap_alloc_new ((w.alloc (.cells #[.string ⟨#[120, 59]⟩, .string ⟨#[120, 32, 43, 32, 49, 59]⟩, .string ⟨#[120, 46, 102, 32, 61, 32, 50, 59]⟩, .string ⟨#[120, 91, 49, 93, 32, 61, 32, 50, 59]⟩, .string ⟨#[102, 40, 41, 32, 61, 32, 50, 59]⟩, .string ⟨#[49, 32, 61, 32, 50, 59]⟩, .string ⟨#[102, 40, 49, 41, 59]⟩, .string ⟨#[40, 120, 41, 32, 61, 32, 49, 59]⟩, .string ⟨#[45, 120, 32, 61, 32, 49, 59]⟩, .string ⟨#[114, 101, 116, 117, 114, 110]⟩, .string ⟨#[114, 101, 116, 117, 114, 110, 59]⟩, .string ⟨#[114, 101, 116, 117, 114, 110, 32, 49, 59]⟩, .string ⟨#[108, 101, 116, 32, 120, 32, 61, 32, 49, 59]⟩, .string ⟨#[118, 97, 114, 32, 120, 58, 32, 91, 91, 105, 110, 116, 93, 93, 59]⟩, .string ⟨#[118, 97, 114, 32, 120, 58, 32, 91, 91, 91, 91, 105, 110, 116, 93, 93, 93, 93, 59]⟩, .string ⟨#[105, 102, 32, 98, 32, 123, 32, 125, 32, 101, 108, 115, 101, 32, 102, 40, 41, 59]⟩, .string ⟨#[112, 114, 105, 110, 116, 59]⟩, .string ⟨#[119, 104, 105, 108, 101, 32, 123, 32, 125]⟩, .string ⟨#[120, 32, 61, 32, 59]⟩, .string ⟨#[102, 40, 41, 46, 103, 32, 61, 32, 49, 59]⟩] 9)).alloc (.cells #[.int .i64 0, .int .i64 0, .int .i64 4, .int .i64 4, .int .i64 0, .int .i64 0, .int .i64 9, .int .i64 3, .int .i64 0, .int .i64 0, .int .i64 7, .int .i64 7, .int .i64 0, .int .i64 1, .int .i64 0, .int .i64 0, .int .i64 0, .int .i64 0, .int .i64 0, .int .i64 4] 3)) (.cells #[.int .i64 1, .int .i64 5, .int .i64 0, .int .i64 0, .int .i64 4, .int .i64 2, .int .i64 0, .int .i64 0, .int .i64 3, .int .i64 6, .int .i64 0, .int .i64 0, .int .i64 6, .int .i64 0, .int .i64 10, .int .i64 14, .int .i64 5, .int .i64 6, .int .i64 4, .int .i64 0] 3); simp only [size_alloc] at this; exact this
  have HKK := Lib.hid hkK
  have HKA := Lib.hid hkA
  have HB0 := Lib.hid hb0
  clear hm hmk hops hkK hkA hb0
  go_enter Tryd.func4, Tryd.ntmps4
  go_wp2_with fail
  rw [← hw0]
  clear hw0
  have htk := tokens_are ⟨#[112, 114, 105, 110, 116, 59]⟩ (by decide) oddU16 0 0 oddT16 w0
  rw [oddN16] at htk
  refine (htk).mono ?_
  clear htk
  rintro e w1 ⟨A, cA, rfl, hl1, hb1⟩
  have hbf : Below w1.heap.size w1 (w1.alloc (.cells #[.int .i64 0, .int .i64 0] 25)) := (Below.refl _ _).alloc (Nat.le_refl _) _
  have ht := (toks_of (c := cA) hl1 oddS16).below hbf
  rw [oddN16] at ht
  have HT := Lib.hid ht
  have hb01 := below_seq hb1 hbf hb1.size
  have HB1 := Lib.hid (below_seq HB0.out hb01 HB0.out.size)
  have HKK1 := Lib.hid ((hb01.block _ (heap_lt' HKK.out)).trans HKK.out)
  have HKA1 := Lib.hid ((hb01.block _ (heap_lt' HKA.out)).trans HKA.out)
  clear ht hl1 hb1 hbf hb01 HKK HKA
  go_wp2_with fail
  have hlen : (oddU16.map toRT).length ≤ 90000000 := by rw [List.length_map, oddN16]; decide
  refine (stParse_any _ _ _ (oddU16.map toRT) (pxBy oddU16 (10 * 3 + 20)) (pok_of hlen (pxBy_is oddN16 (by decide))) 0 0 HT.out (by obtain ⟨gt, gfr, hg⟩ := HOP.out; exact ⟨gt, gfr, (HB1.out.block _ (heap_lt' hg)).trans hg⟩) (10 * 3 + 20) (by decide) _ HM.out).mono ?_
  rintro e w3 ⟨sk, sn, so, sd, sep, sel, sec, sbp, sbl, sbc, slp, sll, slc, sa, sr, rfl, hs, hb3⟩
  have hsk := hs.kindM
  clear hsk
  have hKr := (hb3.block _ (heap_lt' HKK1.out)).trans HKK1.out
  have hK : w3.cell? ⟨w.heap.size + 1, 16, none⟩ = some (.int .i64 0) := by rw [cell_of_row _ _ _ _ _ _ hKr]; rfl
  have hKl := heap_lt' hKr
  have hAr := (hb3.block _ (heap_lt' HKA1.out)).trans HKA1.out
  have HA := Lib.hid hAr
  have HK := Lib.hid hK
  have HL3 := Lib.hid (heap_lt' hAr)
  have HB3 := Lib.hid (below_seq HB1.out hb3 HB1.out.size)
  clear hs hb3 hKr hAr HT HKK1 HKA1 hlen
  dsimp only
  have hKw : ((w3.alloc (.cells #[.int .i64 sk, .string (cbs sn), .string (cbs so), .int .i64 sd, .slice sep sel sec, .slice sbp sbl sbc, .slice slp sll slc, .int .i64 sa, .int .i64 sr] 33)).alloc (.cells #[.int .i64 2, .int .i64 5] 25)).cell? ⟨w.heap.size + 1, 16, none⟩ = some (.int .i64 0) :=
    ((((Below.refl _ _).alloc (Nat.le_refl _) _).alloc (by rw [size_alloc]; omega) _ : Below w3.heap.size w3 ((w3.alloc (.cells #[.int .i64 sk, .string (cbs sn), .string (cbs so), .int .i64 sd, .slice sep sel sec, .slice sbp sbl sbc, .slice slp sll slc, .int .i64 sa, .int .i64 sr] 33)).alloc (.cells #[.int .i64 2, .int .i64 5] 25))).cell (p := ⟨w.heap.size + 1, 16, none⟩) hKl).trans hK
  go_wp2_with fail
  clear hK hKw
  obtain ⟨wc, hwc⟩ : ∃ wc, wc = (w3.alloc (.cells #[.int .i64 sk, .string (cbs sn), .string (cbs so), .int .i64 sd, .slice sep sel sec, .slice sbp sbl sbc, .slice slp sll slc, .int .i64 sa, .int .i64 sr] 33)).alloc (.cells #[.int .i64 2, .int .i64 5] 25) := ⟨_, rfl⟩
  try rw [← hwc]
  have hb5 : Below w3.heap.size w3 wc := by rw [hwc]; exact ((Below.refl _ _).alloc (Nat.le_refl _) _).alloc (by rw [size_alloc]; omega) _
  have hS : wc.heap[w3.heap.size]? = some (.cells #[.int .i64 sk, .string (cbs sn), .string (cbs so), .int .i64 sd, .slice sep sel sec, .slice sbp sbl sbc, .slice slp sll slc, .int .i64 sa, .int .i64 sr] 33 (0, 0)) := by rw [hwc]; exact alloc_box _ (heap_alloc_new w3 _)
  have hG : wc.heap[w3.heap.size + 1]? = some (.cells #[.int .i64 2, .int .i64 5] 25 (0, 0)) := by rw [hwc]; have := heap_alloc_new (w3.alloc (.cells #[.int .i64 sk, .string (cbs sn), .string (cbs so), .int .i64 sd, .slice sep sel sec, .slice sbp sbl sbc, .slice slp sll slc, .int .i64 sa, .int .i64 sr] 33)) (.cells #[.int .i64 2, .int .i64 5] 25); rw [size_alloc] at this; exact this
  clear hwc
  have hK := (hb5.cell (p := ⟨w.heap.size + 1, 16, none⟩) hKl).trans HK.out
  have hA : wc.cell? ⟨w.heap.size + 1 + 1, 16, none⟩ = some (.int .i64 5) := by rw [cell_of_row _ _ _ _ _ _ ((hb5.block _ HL3.out).trans HA.out)]; rfl
  have HS0 : Hid (wc.cell? ⟨w3.heap.size + 1, 0, none⟩ = some (.int .i64 2) ∧ wc.cell? ⟨w3.heap.size + 1, 1, none⟩ = some (.int .i64 5) ∧ wc.cell? ⟨w.heap.size + 1 + 1, 16, none⟩ = some (.int .i64 5)) := Lib.hid ⟨(duo hG).1.1, (duo hG).1.2, hA⟩
  have HLT := Lib.hid (show w3.heap.size + 1 < wc.heap.size ∧ w3.heap.size + 1 < wc.heap.size ∧ w.heap.size + 1 + 1 < wc.heap.size from ⟨heap_lt' hG, heap_lt' hG, by have := HL3.out; have := hb5.size; omega⟩)
  have HW := Lib.hid (below_seq HB3.out hb5 HB3.out.size)
  clear hb5 hS hG hK hA hKl HK HA HB3 HB1 HB0
  have HKN := Lib.hid (known4_any wc.drew (by obtain ⟨gt, gfr, hg⟩ := HOP.out; exact ⟨gt, gfr, (HW.out.block _ (heap_lt' hg)).trans hg⟩))
  obtain ⟨e0, e1, e2⟩ := HS0.out
  have hq := eq_f2 2 5 2 5
  go_region_held3 (fun w' => w'.cell? ⟨w3.heap.size + 1, 0, none⟩ = some (.int .i64 2) ∧ w'.cell? ⟨w3.heap.size + 1, 1, none⟩ = some (.int .i64 5) ∧ w'.cell? ⟨w.heap.size + 1 + 1, 16, none⟩ = some (.int .i64 5)) (first | exact HS0.out | exact HS4.out) (first
    | (go_at_call 8; (with_reducible refine Calls.mono HKN.out ?_); rintro e w4 ⟨rfl, hb4⟩; have HB4 := Lib.hid (below_seq ((Below.refl wc.heap.size wc).drew) hb4 (Nat.le_refl _)); have HS4 : Hid (w4.cell? ⟨w3.heap.size + 1, 0, none⟩ = some (.int .i64 2) ∧ w4.cell? ⟨w3.heap.size + 1, 1, none⟩ = some (.int .i64 5) ∧ w4.cell? ⟨w.heap.size + 1 + 1, 16, none⟩ = some (.int .i64 5)) := Lib.hid ⟨(HB4.out.cell (p := ⟨w3.heap.size + 1, 0, none⟩) HLT.out.1).trans HS0.out.1, (HB4.out.cell (p := ⟨w3.heap.size + 1, 1, none⟩) HLT.out.2.1).trans HS0.out.2.1, (HB4.out.cell (p := ⟨w.heap.size + 1 + 1, 16, none⟩) HLT.out.2.2).trans HS0.out.2.2⟩; clear hb4 HKN))
  go_wp2_with fail
  go_ret
  exact ⟨rfl, below_seq HW.out HB4.out HW.out.size⟩

def oddU17 : List Ln.Lx.Tk := (Ln.Lx.toks [119, 104, 105, 108, 101, 32, 123, 32, 125]).1
set_option maxRecDepth 40000 in
theorem oddT17 : Ln.Lx.toks [119, 104, 105, 108, 101, 32, 123, 32, 125] = (oddU17, 0, 0) := by kernel_rfl
theorem oddN17 : oddU17.length = 4 := by kernel_rfl
set_option maxRecDepth 40000 in
theorem oddP17 : oddly oddU17 4 = some (0, 0, 2, 6) := by kernel_rfl
theorem oddS17 : ∀ t ∈ oddU17, t.text.length ≤ 281474976710656 := by
  have h : (oddU17.all fun t => decide (t.text.length ≤ 281474976710656)) = true := by kernel_rfl
  exact fun t ht => of_decide_eq_true (List.all_eq_true.1 h t ht)

set_option maxRecDepth 40000 in
set_option maxHeartbeats 8000000 in
theorem odd4_17 (w : World) (hops : OpsIn w) :
    Calls Tryd.prog 4 #[.int .i64 17] w fun e w' => e = .returned (.bool true) ∧ Below w.heap.size w w' := by
  obtain ⟨m, hm, hmk⟩ := oddly_out oddP17
  have HM := Lib.hid hm
  have HMK := Lib.hid hmk
  have HOP := Lib.hid hops
  obtain ⟨w0, hw0⟩ : ∃ w0, w0 = ((w.alloc (.cells #[.string ⟨#[120, 59]⟩, .string ⟨#[120, 32, 43, 32, 49, 59]⟩, .string ⟨#[120, 46, 102, 32, 61, 32, 50, 59]⟩, .string ⟨#[120, 91, 49, 93, 32, 61, 32, 50, 59]⟩, .string ⟨#[102, 40, 41, 32, 61, 32, 50, 59]⟩, .string ⟨#[49, 32, 61, 32, 50, 59]⟩, .string ⟨#[102, 40, 49, 41, 59]⟩, .string ⟨#[40, 120, 41, 32, 61, 32, 49, 59]⟩, .string ⟨#[45, 120, 32, 61, 32, 49, 59]⟩, .string ⟨#[114, 101, 116, 117, 114, 110]⟩, .string ⟨#[114, 101, 116, 117, 114, 110, 59]⟩, .string ⟨#[114, 101, 116, 117, 114, 110, 32, 49, 59]⟩, .string ⟨#[108, 101, 116, 32, 120, 32, 61, 32, 49, 59]⟩, .string ⟨#[118, 97, 114, 32, 120, 58, 32, 91, 91, 105, 110, 116, 93, 93, 59]⟩, .string ⟨#[118, 97, 114, 32, 120, 58, 32, 91, 91, 91, 91, 105, 110, 116, 93, 93, 93, 93, 59]⟩, .string ⟨#[105, 102, 32, 98, 32, 123, 32, 125, 32, 101, 108, 115, 101, 32, 102, 40, 41, 59]⟩, .string ⟨#[112, 114, 105, 110, 116, 59]⟩, .string ⟨#[119, 104, 105, 108, 101, 32, 123, 32, 125]⟩, .string ⟨#[120, 32, 61, 32, 59]⟩, .string ⟨#[102, 40, 41, 46, 103, 32, 61, 32, 49, 59]⟩] 9)).alloc (.cells #[.int .i64 0, .int .i64 0, .int .i64 4, .int .i64 4, .int .i64 0, .int .i64 0, .int .i64 9, .int .i64 3, .int .i64 0, .int .i64 0, .int .i64 7, .int .i64 7, .int .i64 0, .int .i64 1, .int .i64 0, .int .i64 0, .int .i64 0, .int .i64 0, .int .i64 0, .int .i64 4] 3)).alloc (.cells #[.int .i64 1, .int .i64 5, .int .i64 0, .int .i64 0, .int .i64 4, .int .i64 2, .int .i64 0, .int .i64 0, .int .i64 3, .int .i64 6, .int .i64 0, .int .i64 0, .int .i64 6, .int .i64 0, .int .i64 10, .int .i64 14, .int .i64 5, .int .i64 6, .int .i64 4, .int .i64 0] 3) := ⟨_, rfl⟩
  have hb0 : Below w.heap.size w w0 := by rw [hw0]; exact (((Below.refl _ _).alloc (Nat.le_refl _) _).alloc (by simp only [size_alloc]; omega) _).alloc (by simp only [size_alloc]; omega) _
  have hkK : w0.heap[w.heap.size + 1]? = some (.cells #[.int .i64 0, .int .i64 0, .int .i64 4, .int .i64 4, .int .i64 0, .int .i64 0, .int .i64 9, .int .i64 3, .int .i64 0, .int .i64 0, .int .i64 7, .int .i64 7, .int .i64 0, .int .i64 1, .int .i64 0, .int .i64 0, .int .i64 0, .int .i64 0, .int .i64 0, .int .i64 4] 3 (0, 0)) := by rw [hw0]; have := heap_alloc_new (w.alloc (.cells #[.string ⟨#[120, 59]⟩, .string ⟨#[120, 32, 43, 32, 49, 59]⟩, .string ⟨#[120, 46, 102, 32, 61, 32, 50, 59]⟩, .string ⟨#[120, 91, 49, 93, 32, 61, 32, 50, 59]⟩, .string ⟨#[102, 40, 41, 32, 61, 32, 50, 59]⟩, .string ⟨#[49, 32, 61, 32, 50, 59]⟩, .string ⟨#[102, 40, 49, 41, 59]⟩, .string ⟨#[40, 120, 41, 32, 61, 32, 49, 59]⟩, .string ⟨#[45, 120, 32, 61, 32, 49, 59]⟩, .string ⟨#[114, 101, 116, 117, 114, 110]⟩, .string ⟨#[114, 101, 116, 117, 114, 110, 59]⟩, .string ⟨#[114, 101, 116, 117, 114, 110, 32, 49, 59]⟩, .string ⟨#[108, 101, 116, 32, 120, 32, 61, 32, 49, 59]⟩, .string ⟨#[118, 97, 114, 32, 120, 58, 32, 91, 91, 105, 110, 116, 93, 93, 59]⟩, .string ⟨#[118, 97, 114, 32, 120, 58, 32, 91, 91, 91, 91, 105, 110, 116, 93, 93, 93, 93, 59]⟩, .string ⟨#[105, 102, 32, 98, 32, 123, 32, 125, 32, 101, 108, 115, 101, 32, 102, 40, 41, 59]⟩, .string ⟨#[112, 114, 105, 110, 116, 59]⟩, .string ⟨#[119, 104, 105, 108, 101, 32, 123, 32, 125]⟩, .string ⟨#[120, 32, 61, 32, 59]⟩, .string ⟨#[102, 40, 41, 46, 103, 32, 61, 32, 49, 59]⟩] 9)) (.cells #[.int .i64 0, .int .i64 0, .int .i64 4, .int .i64 4, .int .i64 0, .int .i64 0, .int .i64 9, .int .i64 3, .int .i64 0, .int .i64 0, .int .i64 7, .int .i64 7, .int .i64 0, .int .i64 1, .int .i64 0, .int .i64 0, .int .i64 0, .int .i64 0, .int .i64 0, .int .i64 4] 3); rw [size_alloc] at this; exact alloc_box _ this
  have hkA : w0.heap[w.heap.size + 1 + 1]? = some (.cells #[.int .i64 1, .int .i64 5, .int .i64 0, .int .i64 0, .int .i64 4, .int .i64 2, .int .i64 0, .int .i64 0, .int .i64 3, .int .i64 6, .int .i64 0, .int .i64 0, .int .i64 6, .int .i64 0, .int .i64 10, .int .i64 14, .int .i64 5, .int .i64 6, .int .i64 4, .int .i64 0] 3 (0, 0)) := by rw [hw0]; have := heap_alloc_new ((w.alloc (.cells #[.string ⟨#[120, 59]⟩, .string ⟨#[120, 32, 43, 32, 49, 59]⟩, .string ⟨#[120, 46, 102, 32, 61, 32, 50, 59]⟩, .string ⟨#[120, 91, 49, 93, 32, 61, 32, 50, 59]⟩, .string ⟨#[102, 40, 41, 32, 61, 32, 50, 59]⟩, .string ⟨#[49, 32, 61, 32, 50, 59]⟩, .string ⟨#[102, 40, 49, 41, 59]⟩, .string ⟨#[40, 120, 41, 32, 61, 32, 49, 59]⟩, .string ⟨#[45, 120, 32, 61, 32, 49, 59]⟩, .string ⟨#[114, 101, 116, 117, 114, 110]⟩, .string ⟨#[114, 101, 116, 117, 114, 110, 59]⟩, .string ⟨#[114, 101, 116, 117, 114, 110, 32, 49, 59]⟩, .string ⟨#[108, 101, 116, 32, 120, 32, 61, 32, 49, 59]⟩, .string ⟨#[118, 97, 114, 32, 120, 58, 32, 91, 91, 105, 110, 116, 93, 93, 59]⟩, .string ⟨#[118, 97, 114, 32, 120, 58, 32, 91, 91, 91, 91, 105, 110, 116, 93, 93, 93, 93, 59]⟩, .string ⟨#[105, 102, 32, 98, 32, 123, 32, 125, 32, 101, 108, 115, 101, 32, 102, 40, 41, 59]⟩, .string ⟨#[112, 114, 105, 110, 116, 59]⟩, .string ⟨#[119, 104, 105, 108, 101, 32, 123, 32, 125]⟩, .string ⟨#[120, 32, 61, 32, 59]⟩, .string ⟨#[102, 40, 41, 46, 103, 32, 61, 32, 49, 59]⟩] 9)).alloc (.cells #[.int .i64 0, .int .i64 0, .int .i64 4, .int .i64 4, .int .i64 0, .int .i64 0, .int .i64 9, .int .i64 3, .int .i64 0, .int .i64 0, .int .i64 7, .int .i64 7, .int .i64 0, .int .i64 1, .int .i64 0, .int .i64 0, .int .i64 0, .int .i64 0, .int .i64 0, .int .i64 4] 3)) (.cells #[.int .i64 1, .int .i64 5, .int .i64 0, .int .i64 0, .int .i64 4, .int .i64 2, .int .i64 0, .int .i64 0, .int .i64 3, .int .i64 6, .int .i64 0, .int .i64 0, .int .i64 6, .int .i64 0, .int .i64 10, .int .i64 14, .int .i64 5, .int .i64 6, .int .i64 4, .int .i64 0] 3); simp only [size_alloc] at this; exact this
  have HKK := Lib.hid hkK
  have HKA := Lib.hid hkA
  have HB0 := Lib.hid hb0
  clear hm hmk hops hkK hkA hb0
  go_enter Tryd.func4, Tryd.ntmps4
  go_wp2_with fail
  rw [← hw0]
  clear hw0
  have htk := tokens_are ⟨#[119, 104, 105, 108, 101, 32, 123, 32, 125]⟩ (by decide) oddU17 0 0 oddT17 w0
  rw [oddN17] at htk
  refine (htk).mono ?_
  clear htk
  rintro e w1 ⟨A, cA, rfl, hl1, hb1⟩
  have hbf : Below w1.heap.size w1 (w1.alloc (.cells #[.int .i64 0, .int .i64 0] 25)) := (Below.refl _ _).alloc (Nat.le_refl _) _
  have ht := (toks_of (c := cA) hl1 oddS17).below hbf
  rw [oddN17] at ht
  have HT := Lib.hid ht
  have hb01 := below_seq hb1 hbf hb1.size
  have HB1 := Lib.hid (below_seq HB0.out hb01 HB0.out.size)
  have HKK1 := Lib.hid ((hb01.block _ (heap_lt' HKK.out)).trans HKK.out)
  have HKA1 := Lib.hid ((hb01.block _ (heap_lt' HKA.out)).trans HKA.out)
  clear ht hl1 hb1 hbf hb01 HKK HKA
  go_wp2_with fail
  have hlen : (oddU17.map toRT).length ≤ 90000000 := by rw [List.length_map, oddN17]; decide
  refine (stParse_any _ _ _ (oddU17.map toRT) (pxBy oddU17 (10 * 4 + 20)) (pok_of hlen (pxBy_is oddN17 (by decide))) 0 0 HT.out (by obtain ⟨gt, gfr, hg⟩ := HOP.out; exact ⟨gt, gfr, (HB1.out.block _ (heap_lt' hg)).trans hg⟩) (10 * 4 + 20) (by decide) _ HM.out).mono ?_
  rintro e w3 ⟨sk, sn, so, sd, sep, sel, sec, sbp, sbl, sbc, slp, sll, slc, sa, sr, rfl, hs, hb3⟩
  have hsk := hs.kindM
  clear hsk
  have hKr := (hb3.block _ (heap_lt' HKK1.out)).trans HKK1.out
  have hK : w3.cell? ⟨w.heap.size + 1, 17, none⟩ = some (.int .i64 0) := by rw [cell_of_row _ _ _ _ _ _ hKr]; rfl
  have hKl := heap_lt' hKr
  have hAr := (hb3.block _ (heap_lt' HKA1.out)).trans HKA1.out
  have HA := Lib.hid hAr
  have HK := Lib.hid hK
  have HL3 := Lib.hid (heap_lt' hAr)
  have HB3 := Lib.hid (below_seq HB1.out hb3 HB1.out.size)
  clear hs hb3 hKr hAr HT HKK1 HKA1 hlen
  dsimp only
  have hKw : ((w3.alloc (.cells #[.int .i64 sk, .string (cbs sn), .string (cbs so), .int .i64 sd, .slice sep sel sec, .slice sbp sbl sbc, .slice slp sll slc, .int .i64 sa, .int .i64 sr] 33)).alloc (.cells #[.int .i64 2, .int .i64 6] 25)).cell? ⟨w.heap.size + 1, 17, none⟩ = some (.int .i64 0) :=
    ((((Below.refl _ _).alloc (Nat.le_refl _) _).alloc (by rw [size_alloc]; omega) _ : Below w3.heap.size w3 ((w3.alloc (.cells #[.int .i64 sk, .string (cbs sn), .string (cbs so), .int .i64 sd, .slice sep sel sec, .slice sbp sbl sbc, .slice slp sll slc, .int .i64 sa, .int .i64 sr] 33)).alloc (.cells #[.int .i64 2, .int .i64 6] 25))).cell (p := ⟨w.heap.size + 1, 17, none⟩) hKl).trans hK
  go_wp2_with fail
  clear hK hKw
  obtain ⟨wc, hwc⟩ : ∃ wc, wc = (w3.alloc (.cells #[.int .i64 sk, .string (cbs sn), .string (cbs so), .int .i64 sd, .slice sep sel sec, .slice sbp sbl sbc, .slice slp sll slc, .int .i64 sa, .int .i64 sr] 33)).alloc (.cells #[.int .i64 2, .int .i64 6] 25) := ⟨_, rfl⟩
  try rw [← hwc]
  have hb5 : Below w3.heap.size w3 wc := by rw [hwc]; exact ((Below.refl _ _).alloc (Nat.le_refl _) _).alloc (by rw [size_alloc]; omega) _
  have hS : wc.heap[w3.heap.size]? = some (.cells #[.int .i64 sk, .string (cbs sn), .string (cbs so), .int .i64 sd, .slice sep sel sec, .slice sbp sbl sbc, .slice slp sll slc, .int .i64 sa, .int .i64 sr] 33 (0, 0)) := by rw [hwc]; exact alloc_box _ (heap_alloc_new w3 _)
  have hG : wc.heap[w3.heap.size + 1]? = some (.cells #[.int .i64 2, .int .i64 6] 25 (0, 0)) := by rw [hwc]; have := heap_alloc_new (w3.alloc (.cells #[.int .i64 sk, .string (cbs sn), .string (cbs so), .int .i64 sd, .slice sep sel sec, .slice sbp sbl sbc, .slice slp sll slc, .int .i64 sa, .int .i64 sr] 33)) (.cells #[.int .i64 2, .int .i64 6] 25); rw [size_alloc] at this; exact this
  clear hwc
  have hK := (hb5.cell (p := ⟨w.heap.size + 1, 17, none⟩) hKl).trans HK.out
  have hA : wc.cell? ⟨w.heap.size + 1 + 1, 17, none⟩ = some (.int .i64 6) := by rw [cell_of_row _ _ _ _ _ _ ((hb5.block _ HL3.out).trans HA.out)]; rfl
  have HS0 : Hid (wc.cell? ⟨w3.heap.size + 1, 0, none⟩ = some (.int .i64 2) ∧ wc.cell? ⟨w3.heap.size + 1, 1, none⟩ = some (.int .i64 6) ∧ wc.cell? ⟨w.heap.size + 1 + 1, 17, none⟩ = some (.int .i64 6)) := Lib.hid ⟨(duo hG).1.1, (duo hG).1.2, hA⟩
  have HLT := Lib.hid (show w3.heap.size + 1 < wc.heap.size ∧ w3.heap.size + 1 < wc.heap.size ∧ w.heap.size + 1 + 1 < wc.heap.size from ⟨heap_lt' hG, heap_lt' hG, by have := HL3.out; have := hb5.size; omega⟩)
  have HW := Lib.hid (below_seq HB3.out hb5 HB3.out.size)
  clear hb5 hS hG hK hA hKl HK HA HB3 HB1 HB0
  have HKN := Lib.hid (known4_any wc.drew (by obtain ⟨gt, gfr, hg⟩ := HOP.out; exact ⟨gt, gfr, (HW.out.block _ (heap_lt' hg)).trans hg⟩))
  obtain ⟨e0, e1, e2⟩ := HS0.out
  have hq := eq_f2 2 6 2 6
  go_region_held3 (fun w' => w'.cell? ⟨w3.heap.size + 1, 0, none⟩ = some (.int .i64 2) ∧ w'.cell? ⟨w3.heap.size + 1, 1, none⟩ = some (.int .i64 6) ∧ w'.cell? ⟨w.heap.size + 1 + 1, 17, none⟩ = some (.int .i64 6)) (first | exact HS0.out | exact HS4.out) (first
    | (go_at_call 8; (with_reducible refine Calls.mono HKN.out ?_); rintro e w4 ⟨rfl, hb4⟩; have HB4 := Lib.hid (below_seq ((Below.refl wc.heap.size wc).drew) hb4 (Nat.le_refl _)); have HS4 : Hid (w4.cell? ⟨w3.heap.size + 1, 0, none⟩ = some (.int .i64 2) ∧ w4.cell? ⟨w3.heap.size + 1, 1, none⟩ = some (.int .i64 6) ∧ w4.cell? ⟨w.heap.size + 1 + 1, 17, none⟩ = some (.int .i64 6)) := Lib.hid ⟨(HB4.out.cell (p := ⟨w3.heap.size + 1, 0, none⟩) HLT.out.1).trans HS0.out.1, (HB4.out.cell (p := ⟨w3.heap.size + 1, 1, none⟩) HLT.out.2.1).trans HS0.out.2.1, (HB4.out.cell (p := ⟨w.heap.size + 1 + 1, 17, none⟩) HLT.out.2.2).trans HS0.out.2.2⟩; clear hb4 HKN))
  go_wp2_with fail
  go_ret
  exact ⟨rfl, below_seq HW.out HB4.out HW.out.size⟩

def oddU18 : List Ln.Lx.Tk := (Ln.Lx.toks [120, 32, 61, 32, 59]).1
set_option maxRecDepth 40000 in
theorem oddT18 : Ln.Lx.toks [120, 32, 61, 32, 59] = (oddU18, 0, 0) := by kernel_rfl
theorem oddN18 : oddU18.length = 4 := by kernel_rfl
set_option maxRecDepth 40000 in
theorem oddP18 : oddly oddU18 4 = some (0, 0, 2, 4) := by kernel_rfl
theorem oddS18 : ∀ t ∈ oddU18, t.text.length ≤ 281474976710656 := by
  have h : (oddU18.all fun t => decide (t.text.length ≤ 281474976710656)) = true := by kernel_rfl
  exact fun t ht => of_decide_eq_true (List.all_eq_true.1 h t ht)

set_option maxRecDepth 40000 in
set_option maxHeartbeats 8000000 in
theorem odd4_18 (w : World) (hops : OpsIn w) :
    Calls Tryd.prog 4 #[.int .i64 18] w fun e w' => e = .returned (.bool true) ∧ Below w.heap.size w w' := by
  obtain ⟨m, hm, hmk⟩ := oddly_out oddP18
  have HM := Lib.hid hm
  have HMK := Lib.hid hmk
  have HOP := Lib.hid hops
  obtain ⟨w0, hw0⟩ : ∃ w0, w0 = ((w.alloc (.cells #[.string ⟨#[120, 59]⟩, .string ⟨#[120, 32, 43, 32, 49, 59]⟩, .string ⟨#[120, 46, 102, 32, 61, 32, 50, 59]⟩, .string ⟨#[120, 91, 49, 93, 32, 61, 32, 50, 59]⟩, .string ⟨#[102, 40, 41, 32, 61, 32, 50, 59]⟩, .string ⟨#[49, 32, 61, 32, 50, 59]⟩, .string ⟨#[102, 40, 49, 41, 59]⟩, .string ⟨#[40, 120, 41, 32, 61, 32, 49, 59]⟩, .string ⟨#[45, 120, 32, 61, 32, 49, 59]⟩, .string ⟨#[114, 101, 116, 117, 114, 110]⟩, .string ⟨#[114, 101, 116, 117, 114, 110, 59]⟩, .string ⟨#[114, 101, 116, 117, 114, 110, 32, 49, 59]⟩, .string ⟨#[108, 101, 116, 32, 120, 32, 61, 32, 49, 59]⟩, .string ⟨#[118, 97, 114, 32, 120, 58, 32, 91, 91, 105, 110, 116, 93, 93, 59]⟩, .string ⟨#[118, 97, 114, 32, 120, 58, 32, 91, 91, 91, 91, 105, 110, 116, 93, 93, 93, 93, 59]⟩, .string ⟨#[105, 102, 32, 98, 32, 123, 32, 125, 32, 101, 108, 115, 101, 32, 102, 40, 41, 59]⟩, .string ⟨#[112, 114, 105, 110, 116, 59]⟩, .string ⟨#[119, 104, 105, 108, 101, 32, 123, 32, 125]⟩, .string ⟨#[120, 32, 61, 32, 59]⟩, .string ⟨#[102, 40, 41, 46, 103, 32, 61, 32, 49, 59]⟩] 9)).alloc (.cells #[.int .i64 0, .int .i64 0, .int .i64 4, .int .i64 4, .int .i64 0, .int .i64 0, .int .i64 9, .int .i64 3, .int .i64 0, .int .i64 0, .int .i64 7, .int .i64 7, .int .i64 0, .int .i64 1, .int .i64 0, .int .i64 0, .int .i64 0, .int .i64 0, .int .i64 0, .int .i64 4] 3)).alloc (.cells #[.int .i64 1, .int .i64 5, .int .i64 0, .int .i64 0, .int .i64 4, .int .i64 2, .int .i64 0, .int .i64 0, .int .i64 3, .int .i64 6, .int .i64 0, .int .i64 0, .int .i64 6, .int .i64 0, .int .i64 10, .int .i64 14, .int .i64 5, .int .i64 6, .int .i64 4, .int .i64 0] 3) := ⟨_, rfl⟩
  have hb0 : Below w.heap.size w w0 := by rw [hw0]; exact (((Below.refl _ _).alloc (Nat.le_refl _) _).alloc (by simp only [size_alloc]; omega) _).alloc (by simp only [size_alloc]; omega) _
  have hkK : w0.heap[w.heap.size + 1]? = some (.cells #[.int .i64 0, .int .i64 0, .int .i64 4, .int .i64 4, .int .i64 0, .int .i64 0, .int .i64 9, .int .i64 3, .int .i64 0, .int .i64 0, .int .i64 7, .int .i64 7, .int .i64 0, .int .i64 1, .int .i64 0, .int .i64 0, .int .i64 0, .int .i64 0, .int .i64 0, .int .i64 4] 3 (0, 0)) := by rw [hw0]; have := heap_alloc_new (w.alloc (.cells #[.string ⟨#[120, 59]⟩, .string ⟨#[120, 32, 43, 32, 49, 59]⟩, .string ⟨#[120, 46, 102, 32, 61, 32, 50, 59]⟩, .string ⟨#[120, 91, 49, 93, 32, 61, 32, 50, 59]⟩, .string ⟨#[102, 40, 41, 32, 61, 32, 50, 59]⟩, .string ⟨#[49, 32, 61, 32, 50, 59]⟩, .string ⟨#[102, 40, 49, 41, 59]⟩, .string ⟨#[40, 120, 41, 32, 61, 32, 49, 59]⟩, .string ⟨#[45, 120, 32, 61, 32, 49, 59]⟩, .string ⟨#[114, 101, 116, 117, 114, 110]⟩, .string ⟨#[114, 101, 116, 117, 114, 110, 59]⟩, .string ⟨#[114, 101, 116, 117, 114, 110, 32, 49, 59]⟩, .string ⟨#[108, 101, 116, 32, 120, 32, 61, 32, 49, 59]⟩, .string ⟨#[118, 97, 114, 32, 120, 58, 32, 91, 91, 105, 110, 116, 93, 93, 59]⟩, .string ⟨#[118, 97, 114, 32, 120, 58, 32, 91, 91, 91, 91, 105, 110, 116, 93, 93, 93, 93, 59]⟩, .string ⟨#[105, 102, 32, 98, 32, 123, 32, 125, 32, 101, 108, 115, 101, 32, 102, 40, 41, 59]⟩, .string ⟨#[112, 114, 105, 110, 116, 59]⟩, .string ⟨#[119, 104, 105, 108, 101, 32, 123, 32, 125]⟩, .string ⟨#[120, 32, 61, 32, 59]⟩, .string ⟨#[102, 40, 41, 46, 103, 32, 61, 32, 49, 59]⟩] 9)) (.cells #[.int .i64 0, .int .i64 0, .int .i64 4, .int .i64 4, .int .i64 0, .int .i64 0, .int .i64 9, .int .i64 3, .int .i64 0, .int .i64 0, .int .i64 7, .int .i64 7, .int .i64 0, .int .i64 1, .int .i64 0, .int .i64 0, .int .i64 0, .int .i64 0, .int .i64 0, .int .i64 4] 3); rw [size_alloc] at this; exact alloc_box _ this
  have hkA : w0.heap[w.heap.size + 1 + 1]? = some (.cells #[.int .i64 1, .int .i64 5, .int .i64 0, .int .i64 0, .int .i64 4, .int .i64 2, .int .i64 0, .int .i64 0, .int .i64 3, .int .i64 6, .int .i64 0, .int .i64 0, .int .i64 6, .int .i64 0, .int .i64 10, .int .i64 14, .int .i64 5, .int .i64 6, .int .i64 4, .int .i64 0] 3 (0, 0)) := by rw [hw0]; have := heap_alloc_new ((w.alloc (.cells #[.string ⟨#[120, 59]⟩, .string ⟨#[120, 32, 43, 32, 49, 59]⟩, .string ⟨#[120, 46, 102, 32, 61, 32, 50, 59]⟩, .string ⟨#[120, 91, 49, 93, 32, 61, 32, 50, 59]⟩, .string ⟨#[102, 40, 41, 32, 61, 32, 50, 59]⟩, .string ⟨#[49, 32, 61, 32, 50, 59]⟩, .string ⟨#[102, 40, 49, 41, 59]⟩, .string ⟨#[40, 120, 41, 32, 61, 32, 49, 59]⟩, .string ⟨#[45, 120, 32, 61, 32, 49, 59]⟩, .string ⟨#[114, 101, 116, 117, 114, 110]⟩, .string ⟨#[114, 101, 116, 117, 114, 110, 59]⟩, .string ⟨#[114, 101, 116, 117, 114, 110, 32, 49, 59]⟩, .string ⟨#[108, 101, 116, 32, 120, 32, 61, 32, 49, 59]⟩, .string ⟨#[118, 97, 114, 32, 120, 58, 32, 91, 91, 105, 110, 116, 93, 93, 59]⟩, .string ⟨#[118, 97, 114, 32, 120, 58, 32, 91, 91, 91, 91, 105, 110, 116, 93, 93, 93, 93, 59]⟩, .string ⟨#[105, 102, 32, 98, 32, 123, 32, 125, 32, 101, 108, 115, 101, 32, 102, 40, 41, 59]⟩, .string ⟨#[112, 114, 105, 110, 116, 59]⟩, .string ⟨#[119, 104, 105, 108, 101, 32, 123, 32, 125]⟩, .string ⟨#[120, 32, 61, 32, 59]⟩, .string ⟨#[102, 40, 41, 46, 103, 32, 61, 32, 49, 59]⟩] 9)).alloc (.cells #[.int .i64 0, .int .i64 0, .int .i64 4, .int .i64 4, .int .i64 0, .int .i64 0, .int .i64 9, .int .i64 3, .int .i64 0, .int .i64 0, .int .i64 7, .int .i64 7, .int .i64 0, .int .i64 1, .int .i64 0, .int .i64 0, .int .i64 0, .int .i64 0, .int .i64 0, .int .i64 4] 3)) (.cells #[.int .i64 1, .int .i64 5, .int .i64 0, .int .i64 0, .int .i64 4, .int .i64 2, .int .i64 0, .int .i64 0, .int .i64 3, .int .i64 6, .int .i64 0, .int .i64 0, .int .i64 6, .int .i64 0, .int .i64 10, .int .i64 14, .int .i64 5, .int .i64 6, .int .i64 4, .int .i64 0] 3); simp only [size_alloc] at this; exact this
  have HKK := Lib.hid hkK
  have HKA := Lib.hid hkA
  have HB0 := Lib.hid hb0
  clear hm hmk hops hkK hkA hb0
  go_enter Tryd.func4, Tryd.ntmps4
  go_wp2_with fail
  rw [← hw0]
  clear hw0
  have htk := tokens_are ⟨#[120, 32, 61, 32, 59]⟩ (by decide) oddU18 0 0 oddT18 w0
  rw [oddN18] at htk
  refine (htk).mono ?_
  clear htk
  rintro e w1 ⟨A, cA, rfl, hl1, hb1⟩
  have hbf : Below w1.heap.size w1 (w1.alloc (.cells #[.int .i64 0, .int .i64 0] 25)) := (Below.refl _ _).alloc (Nat.le_refl _) _
  have ht := (toks_of (c := cA) hl1 oddS18).below hbf
  rw [oddN18] at ht
  have HT := Lib.hid ht
  have hb01 := below_seq hb1 hbf hb1.size
  have HB1 := Lib.hid (below_seq HB0.out hb01 HB0.out.size)
  have HKK1 := Lib.hid ((hb01.block _ (heap_lt' HKK.out)).trans HKK.out)
  have HKA1 := Lib.hid ((hb01.block _ (heap_lt' HKA.out)).trans HKA.out)
  clear ht hl1 hb1 hbf hb01 HKK HKA
  go_wp2_with fail
  have hlen : (oddU18.map toRT).length ≤ 90000000 := by rw [List.length_map, oddN18]; decide
  refine (stParse_any _ _ _ (oddU18.map toRT) (pxBy oddU18 (10 * 4 + 20)) (pok_of hlen (pxBy_is oddN18 (by decide))) 0 0 HT.out (by obtain ⟨gt, gfr, hg⟩ := HOP.out; exact ⟨gt, gfr, (HB1.out.block _ (heap_lt' hg)).trans hg⟩) (10 * 4 + 20) (by decide) _ HM.out).mono ?_
  rintro e w3 ⟨sk, sn, so, sd, sep, sel, sec, sbp, sbl, sbc, slp, sll, slc, sa, sr, rfl, hs, hb3⟩
  have hsk := hs.kindM
  clear hsk
  have hKr := (hb3.block _ (heap_lt' HKK1.out)).trans HKK1.out
  have hK : w3.cell? ⟨w.heap.size + 1, 18, none⟩ = some (.int .i64 0) := by rw [cell_of_row _ _ _ _ _ _ hKr]; rfl
  have hKl := heap_lt' hKr
  have hAr := (hb3.block _ (heap_lt' HKA1.out)).trans HKA1.out
  have HA := Lib.hid hAr
  have HK := Lib.hid hK
  have HL3 := Lib.hid (heap_lt' hAr)
  have HB3 := Lib.hid (below_seq HB1.out hb3 HB1.out.size)
  clear hs hb3 hKr hAr HT HKK1 HKA1 hlen
  dsimp only
  have hKw : ((w3.alloc (.cells #[.int .i64 sk, .string (cbs sn), .string (cbs so), .int .i64 sd, .slice sep sel sec, .slice sbp sbl sbc, .slice slp sll slc, .int .i64 sa, .int .i64 sr] 33)).alloc (.cells #[.int .i64 2, .int .i64 4] 25)).cell? ⟨w.heap.size + 1, 18, none⟩ = some (.int .i64 0) :=
    ((((Below.refl _ _).alloc (Nat.le_refl _) _).alloc (by rw [size_alloc]; omega) _ : Below w3.heap.size w3 ((w3.alloc (.cells #[.int .i64 sk, .string (cbs sn), .string (cbs so), .int .i64 sd, .slice sep sel sec, .slice sbp sbl sbc, .slice slp sll slc, .int .i64 sa, .int .i64 sr] 33)).alloc (.cells #[.int .i64 2, .int .i64 4] 25))).cell (p := ⟨w.heap.size + 1, 18, none⟩) hKl).trans hK
  go_wp2_with fail
  clear hK hKw
  obtain ⟨wc, hwc⟩ : ∃ wc, wc = (w3.alloc (.cells #[.int .i64 sk, .string (cbs sn), .string (cbs so), .int .i64 sd, .slice sep sel sec, .slice sbp sbl sbc, .slice slp sll slc, .int .i64 sa, .int .i64 sr] 33)).alloc (.cells #[.int .i64 2, .int .i64 4] 25) := ⟨_, rfl⟩
  try rw [← hwc]
  have hb5 : Below w3.heap.size w3 wc := by rw [hwc]; exact ((Below.refl _ _).alloc (Nat.le_refl _) _).alloc (by rw [size_alloc]; omega) _
  have hS : wc.heap[w3.heap.size]? = some (.cells #[.int .i64 sk, .string (cbs sn), .string (cbs so), .int .i64 sd, .slice sep sel sec, .slice sbp sbl sbc, .slice slp sll slc, .int .i64 sa, .int .i64 sr] 33 (0, 0)) := by rw [hwc]; exact alloc_box _ (heap_alloc_new w3 _)
  have hG : wc.heap[w3.heap.size + 1]? = some (.cells #[.int .i64 2, .int .i64 4] 25 (0, 0)) := by rw [hwc]; have := heap_alloc_new (w3.alloc (.cells #[.int .i64 sk, .string (cbs sn), .string (cbs so), .int .i64 sd, .slice sep sel sec, .slice sbp sbl sbc, .slice slp sll slc, .int .i64 sa, .int .i64 sr] 33)) (.cells #[.int .i64 2, .int .i64 4] 25); rw [size_alloc] at this; exact this
  clear hwc
  have hK := (hb5.cell (p := ⟨w.heap.size + 1, 18, none⟩) hKl).trans HK.out
  have hA : wc.cell? ⟨w.heap.size + 1 + 1, 18, none⟩ = some (.int .i64 4) := by rw [cell_of_row _ _ _ _ _ _ ((hb5.block _ HL3.out).trans HA.out)]; rfl
  have HS0 : Hid (wc.cell? ⟨w3.heap.size + 1, 0, none⟩ = some (.int .i64 2) ∧ wc.cell? ⟨w3.heap.size + 1, 1, none⟩ = some (.int .i64 4) ∧ wc.cell? ⟨w.heap.size + 1 + 1, 18, none⟩ = some (.int .i64 4)) := Lib.hid ⟨(duo hG).1.1, (duo hG).1.2, hA⟩
  have HLT := Lib.hid (show w3.heap.size + 1 < wc.heap.size ∧ w3.heap.size + 1 < wc.heap.size ∧ w.heap.size + 1 + 1 < wc.heap.size from ⟨heap_lt' hG, heap_lt' hG, by have := HL3.out; have := hb5.size; omega⟩)
  have HW := Lib.hid (below_seq HB3.out hb5 HB3.out.size)
  clear hb5 hS hG hK hA hKl HK HA HB3 HB1 HB0
  have HKN := Lib.hid (known4_any wc.drew (by obtain ⟨gt, gfr, hg⟩ := HOP.out; exact ⟨gt, gfr, (HW.out.block _ (heap_lt' hg)).trans hg⟩))
  obtain ⟨e0, e1, e2⟩ := HS0.out
  have hq := eq_f2 2 4 2 4
  go_region_held3 (fun w' => w'.cell? ⟨w3.heap.size + 1, 0, none⟩ = some (.int .i64 2) ∧ w'.cell? ⟨w3.heap.size + 1, 1, none⟩ = some (.int .i64 4) ∧ w'.cell? ⟨w.heap.size + 1 + 1, 18, none⟩ = some (.int .i64 4)) (first | exact HS0.out | exact HS4.out) (first
    | (go_at_call 8; (with_reducible refine Calls.mono HKN.out ?_); rintro e w4 ⟨rfl, hb4⟩; have HB4 := Lib.hid (below_seq ((Below.refl wc.heap.size wc).drew) hb4 (Nat.le_refl _)); have HS4 : Hid (w4.cell? ⟨w3.heap.size + 1, 0, none⟩ = some (.int .i64 2) ∧ w4.cell? ⟨w3.heap.size + 1, 1, none⟩ = some (.int .i64 4) ∧ w4.cell? ⟨w.heap.size + 1 + 1, 18, none⟩ = some (.int .i64 4)) := Lib.hid ⟨(HB4.out.cell (p := ⟨w3.heap.size + 1, 0, none⟩) HLT.out.1).trans HS0.out.1, (HB4.out.cell (p := ⟨w3.heap.size + 1, 1, none⟩) HLT.out.2.1).trans HS0.out.2.1, (HB4.out.cell (p := ⟨w.heap.size + 1 + 1, 18, none⟩) HLT.out.2.2).trans HS0.out.2.2⟩; clear hb4 HKN))
  go_wp2_with fail
  go_ret
  exact ⟨rfl, below_seq HW.out HB4.out HW.out.size⟩

def oddU19 : List Ln.Lx.Tk := (Ln.Lx.toks [102, 40, 41, 46, 103, 32, 61, 32, 49, 59]).1
set_option maxRecDepth 40000 in
theorem oddT19 : Ln.Lx.toks [102, 40, 41, 46, 103, 32, 61, 32, 49, 59] = (oddU19, 0, 0) := by kernel_rfl
theorem oddN19 : oddU19.length = 9 := by kernel_rfl
set_option maxRecDepth 40000 in
theorem oddP19 : oddly oddU19 9 = some (4, 8, 0, 0) := by kernel_rfl
theorem oddS19 : ∀ t ∈ oddU19, t.text.length ≤ 281474976710656 := by
  have h : (oddU19.all fun t => decide (t.text.length ≤ 281474976710656)) = true := by kernel_rfl
  exact fun t ht => of_decide_eq_true (List.all_eq_true.1 h t ht)

set_option maxRecDepth 40000 in
set_option maxHeartbeats 8000000 in
theorem odd4_19 (w : World) (hops : OpsIn w) :
    Calls Tryd.prog 4 #[.int .i64 19] w fun e w' => e = .returned (.bool true) ∧ Below w.heap.size w w' := by
  obtain ⟨m, hm, hmk⟩ := oddly_out oddP19
  have HM := Lib.hid hm
  have HMK := Lib.hid hmk
  have HOP := Lib.hid hops
  obtain ⟨w0, hw0⟩ : ∃ w0, w0 = ((w.alloc (.cells #[.string ⟨#[120, 59]⟩, .string ⟨#[120, 32, 43, 32, 49, 59]⟩, .string ⟨#[120, 46, 102, 32, 61, 32, 50, 59]⟩, .string ⟨#[120, 91, 49, 93, 32, 61, 32, 50, 59]⟩, .string ⟨#[102, 40, 41, 32, 61, 32, 50, 59]⟩, .string ⟨#[49, 32, 61, 32, 50, 59]⟩, .string ⟨#[102, 40, 49, 41, 59]⟩, .string ⟨#[40, 120, 41, 32, 61, 32, 49, 59]⟩, .string ⟨#[45, 120, 32, 61, 32, 49, 59]⟩, .string ⟨#[114, 101, 116, 117, 114, 110]⟩, .string ⟨#[114, 101, 116, 117, 114, 110, 59]⟩, .string ⟨#[114, 101, 116, 117, 114, 110, 32, 49, 59]⟩, .string ⟨#[108, 101, 116, 32, 120, 32, 61, 32, 49, 59]⟩, .string ⟨#[118, 97, 114, 32, 120, 58, 32, 91, 91, 105, 110, 116, 93, 93, 59]⟩, .string ⟨#[118, 97, 114, 32, 120, 58, 32, 91, 91, 91, 91, 105, 110, 116, 93, 93, 93, 93, 59]⟩, .string ⟨#[105, 102, 32, 98, 32, 123, 32, 125, 32, 101, 108, 115, 101, 32, 102, 40, 41, 59]⟩, .string ⟨#[112, 114, 105, 110, 116, 59]⟩, .string ⟨#[119, 104, 105, 108, 101, 32, 123, 32, 125]⟩, .string ⟨#[120, 32, 61, 32, 59]⟩, .string ⟨#[102, 40, 41, 46, 103, 32, 61, 32, 49, 59]⟩] 9)).alloc (.cells #[.int .i64 0, .int .i64 0, .int .i64 4, .int .i64 4, .int .i64 0, .int .i64 0, .int .i64 9, .int .i64 3, .int .i64 0, .int .i64 0, .int .i64 7, .int .i64 7, .int .i64 0, .int .i64 1, .int .i64 0, .int .i64 0, .int .i64 0, .int .i64 0, .int .i64 0, .int .i64 4] 3)).alloc (.cells #[.int .i64 1, .int .i64 5, .int .i64 0, .int .i64 0, .int .i64 4, .int .i64 2, .int .i64 0, .int .i64 0, .int .i64 3, .int .i64 6, .int .i64 0, .int .i64 0, .int .i64 6, .int .i64 0, .int .i64 10, .int .i64 14, .int .i64 5, .int .i64 6, .int .i64 4, .int .i64 0] 3) := ⟨_, rfl⟩
  have hb0 : Below w.heap.size w w0 := by rw [hw0]; exact (((Below.refl _ _).alloc (Nat.le_refl _) _).alloc (by simp only [size_alloc]; omega) _).alloc (by simp only [size_alloc]; omega) _
  have hkK : w0.heap[w.heap.size + 1]? = some (.cells #[.int .i64 0, .int .i64 0, .int .i64 4, .int .i64 4, .int .i64 0, .int .i64 0, .int .i64 9, .int .i64 3, .int .i64 0, .int .i64 0, .int .i64 7, .int .i64 7, .int .i64 0, .int .i64 1, .int .i64 0, .int .i64 0, .int .i64 0, .int .i64 0, .int .i64 0, .int .i64 4] 3 (0, 0)) := by rw [hw0]; have := heap_alloc_new (w.alloc (.cells #[.string ⟨#[120, 59]⟩, .string ⟨#[120, 32, 43, 32, 49, 59]⟩, .string ⟨#[120, 46, 102, 32, 61, 32, 50, 59]⟩, .string ⟨#[120, 91, 49, 93, 32, 61, 32, 50, 59]⟩, .string ⟨#[102, 40, 41, 32, 61, 32, 50, 59]⟩, .string ⟨#[49, 32, 61, 32, 50, 59]⟩, .string ⟨#[102, 40, 49, 41, 59]⟩, .string ⟨#[40, 120, 41, 32, 61, 32, 49, 59]⟩, .string ⟨#[45, 120, 32, 61, 32, 49, 59]⟩, .string ⟨#[114, 101, 116, 117, 114, 110]⟩, .string ⟨#[114, 101, 116, 117, 114, 110, 59]⟩, .string ⟨#[114, 101, 116, 117, 114, 110, 32, 49, 59]⟩, .string ⟨#[108, 101, 116, 32, 120, 32, 61, 32, 49, 59]⟩, .string ⟨#[118, 97, 114, 32, 120, 58, 32, 91, 91, 105, 110, 116, 93, 93, 59]⟩, .string ⟨#[118, 97, 114, 32, 120, 58, 32, 91, 91, 91, 91, 105, 110, 116, 93, 93, 93, 93, 59]⟩, .string ⟨#[105, 102, 32, 98, 32, 123, 32, 125, 32, 101, 108, 115, 101, 32, 102, 40, 41, 59]⟩, .string ⟨#[112, 114, 105, 110, 116, 59]⟩, .string ⟨#[119, 104, 105, 108, 101, 32, 123, 32, 125]⟩, .string ⟨#[120, 32, 61, 32, 59]⟩, .string ⟨#[102, 40, 41, 46, 103, 32, 61, 32, 49, 59]⟩] 9)) (.cells #[.int .i64 0, .int .i64 0, .int .i64 4, .int .i64 4, .int .i64 0, .int .i64 0, .int .i64 9, .int .i64 3, .int .i64 0, .int .i64 0, .int .i64 7, .int .i64 7, .int .i64 0, .int .i64 1, .int .i64 0, .int .i64 0, .int .i64 0, .int .i64 0, .int .i64 0, .int .i64 4] 3); rw [size_alloc] at this; exact alloc_box _ this
  have hkA : w0.heap[w.heap.size + 1 + 1]? = some (.cells #[.int .i64 1, .int .i64 5, .int .i64 0, .int .i64 0, .int .i64 4, .int .i64 2, .int .i64 0, .int .i64 0, .int .i64 3, .int .i64 6, .int .i64 0, .int .i64 0, .int .i64 6, .int .i64 0, .int .i64 10, .int .i64 14, .int .i64 5, .int .i64 6, .int .i64 4, .int .i64 0] 3 (0, 0)) := by rw [hw0]; have := heap_alloc_new ((w.alloc (.cells #[.string ⟨#[120, 59]⟩, .string ⟨#[120, 32, 43, 32, 49, 59]⟩, .string ⟨#[120, 46, 102, 32, 61, 32, 50, 59]⟩, .string ⟨#[120, 91, 49, 93, 32, 61, 32, 50, 59]⟩, .string ⟨#[102, 40, 41, 32, 61, 32, 50, 59]⟩, .string ⟨#[49, 32, 61, 32, 50, 59]⟩, .string ⟨#[102, 40, 49, 41, 59]⟩, .string ⟨#[40, 120, 41, 32, 61, 32, 49, 59]⟩, .string ⟨#[45, 120, 32, 61, 32, 49, 59]⟩, .string ⟨#[114, 101, 116, 117, 114, 110]⟩, .string ⟨#[114, 101, 116, 117, 114, 110, 59]⟩, .string ⟨#[114, 101, 116, 117, 114, 110, 32, 49, 59]⟩, .string ⟨#[108, 101, 116, 32, 120, 32, 61, 32, 49, 59]⟩, .string ⟨#[118, 97, 114, 32, 120, 58, 32, 91, 91, 105, 110, 116, 93, 93, 59]⟩, .string ⟨#[118, 97, 114, 32, 120, 58, 32, 91, 91, 91, 91, 105, 110, 116, 93, 93, 93, 93, 59]⟩, .string ⟨#[105, 102, 32, 98, 32, 123, 32, 125, 32, 101, 108, 115, 101, 32, 102, 40, 41, 59]⟩, .string ⟨#[112, 114, 105, 110, 116, 59]⟩, .string ⟨#[119, 104, 105, 108, 101, 32, 123, 32, 125]⟩, .string ⟨#[120, 32, 61, 32, 59]⟩, .string ⟨#[102, 40, 41, 46, 103, 32, 61, 32, 49, 59]⟩] 9)).alloc (.cells #[.int .i64 0, .int .i64 0, .int .i64 4, .int .i64 4, .int .i64 0, .int .i64 0, .int .i64 9, .int .i64 3, .int .i64 0, .int .i64 0, .int .i64 7, .int .i64 7, .int .i64 0, .int .i64 1, .int .i64 0, .int .i64 0, .int .i64 0, .int .i64 0, .int .i64 0, .int .i64 4] 3)) (.cells #[.int .i64 1, .int .i64 5, .int .i64 0, .int .i64 0, .int .i64 4, .int .i64 2, .int .i64 0, .int .i64 0, .int .i64 3, .int .i64 6, .int .i64 0, .int .i64 0, .int .i64 6, .int .i64 0, .int .i64 10, .int .i64 14, .int .i64 5, .int .i64 6, .int .i64 4, .int .i64 0] 3); simp only [size_alloc] at this; exact this
  have HKK := Lib.hid hkK
  have HKA := Lib.hid hkA
  have HB0 := Lib.hid hb0
  clear hm hmk hops hkK hkA hb0
  go_enter Tryd.func4, Tryd.ntmps4
  go_wp2_with fail
  rw [← hw0]
  clear hw0
  have htk := tokens_are ⟨#[102, 40, 41, 46, 103, 32, 61, 32, 49, 59]⟩ (by decide) oddU19 0 0 oddT19 w0
  rw [oddN19] at htk
  refine (htk).mono ?_
  clear htk
  rintro e w1 ⟨A, cA, rfl, hl1, hb1⟩
  have hbf : Below w1.heap.size w1 (w1.alloc (.cells #[.int .i64 0, .int .i64 0] 25)) := (Below.refl _ _).alloc (Nat.le_refl _) _
  have ht := (toks_of (c := cA) hl1 oddS19).below hbf
  rw [oddN19] at ht
  have HT := Lib.hid ht
  have hb01 := below_seq hb1 hbf hb1.size
  have HB1 := Lib.hid (below_seq HB0.out hb01 HB0.out.size)
  have HKK1 := Lib.hid ((hb01.block _ (heap_lt' HKK.out)).trans HKK.out)
  have HKA1 := Lib.hid ((hb01.block _ (heap_lt' HKA.out)).trans HKA.out)
  clear ht hl1 hb1 hbf hb01 HKK HKA
  go_wp2_with fail
  have hlen : (oddU19.map toRT).length ≤ 90000000 := by rw [List.length_map, oddN19]; decide
  refine (stParse_any _ _ _ (oddU19.map toRT) (pxBy oddU19 (10 * 9 + 20)) (pok_of hlen (pxBy_is oddN19 (by decide))) 0 0 HT.out (by obtain ⟨gt, gfr, hg⟩ := HOP.out; exact ⟨gt, gfr, (HB1.out.block _ (heap_lt' hg)).trans hg⟩) (10 * 9 + 20) (by decide) _ HM.out).mono ?_
  rintro e w3 ⟨sk, sn, so, sd, sep, sel, sec, sbp, sbl, sbc, slp, sll, slc, sa, sr, rfl, hs, hb3⟩
  have hsk := hs.kindM
  rw [HMK.out] at hsk
  subst hsk
  have hKr := (hb3.block _ (heap_lt' HKK1.out)).trans HKK1.out
  have hK : w3.cell? ⟨w.heap.size + 1, 19, none⟩ = some (.int .i64 4) := by rw [cell_of_row _ _ _ _ _ _ hKr]; rfl
  have hKl := heap_lt' hKr
  have hAr := (hb3.block _ (heap_lt' HKA1.out)).trans HKA1.out
  have HA := Lib.hid hAr
  have HK := Lib.hid hK
  have HL3 := Lib.hid (heap_lt' hAr)
  have HB3 := Lib.hid (below_seq HB1.out hb3 HB1.out.size)
  clear hs hb3 hKr hAr HT HKK1 HKA1 hlen
  dsimp only
  have hKw : ((w3.alloc (.cells #[.int .i64 4, .string (cbs sn), .string (cbs so), .int .i64 sd, .slice sep sel sec, .slice sbp sbl sbc, .slice slp sll slc, .int .i64 sa, .int .i64 sr] 33)).alloc (.cells #[.int .i64 0, .int .i64 0] 25)).cell? ⟨w.heap.size + 1, 19, none⟩ = some (.int .i64 4) :=
    ((((Below.refl _ _).alloc (Nat.le_refl _) _).alloc (by rw [size_alloc]; omega) _ : Below w3.heap.size w3 ((w3.alloc (.cells #[.int .i64 4, .string (cbs sn), .string (cbs so), .int .i64 sd, .slice sep sel sec, .slice sbp sbl sbc, .slice slp sll slc, .int .i64 sa, .int .i64 sr] 33)).alloc (.cells #[.int .i64 0, .int .i64 0] 25))).cell (p := ⟨w.heap.size + 1, 19, none⟩) hKl).trans hK
  go_wp2_with fail
  clear hK hKw
  obtain ⟨wc, hwc⟩ : ∃ wc, wc = (w3.alloc (.cells #[.int .i64 4, .string (cbs sn), .string (cbs so), .int .i64 sd, .slice sep sel sec, .slice sbp sbl sbc, .slice slp sll slc, .int .i64 sa, .int .i64 sr] 33)).alloc (.cells #[.int .i64 0, .int .i64 0] 25) := ⟨_, rfl⟩
  try rw [← hwc]
  have hb5 : Below w3.heap.size w3 wc := by rw [hwc]; exact ((Below.refl _ _).alloc (Nat.le_refl _) _).alloc (by rw [size_alloc]; omega) _
  have hS : wc.heap[w3.heap.size]? = some (.cells #[.int .i64 4, .string (cbs sn), .string (cbs so), .int .i64 sd, .slice sep sel sec, .slice sbp sbl sbc, .slice slp sll slc, .int .i64 sa, .int .i64 sr] 33 (0, 0)) := by rw [hwc]; exact alloc_box _ (heap_alloc_new w3 _)
  have hG : wc.heap[w3.heap.size + 1]? = some (.cells #[.int .i64 0, .int .i64 0] 25 (0, 0)) := by rw [hwc]; have := heap_alloc_new (w3.alloc (.cells #[.int .i64 4, .string (cbs sn), .string (cbs so), .int .i64 sd, .slice sep sel sec, .slice sbp sbl sbc, .slice slp sll slc, .int .i64 sa, .int .i64 sr] 33)) (.cells #[.int .i64 0, .int .i64 0] 25); rw [size_alloc] at this; exact this
  clear hwc
  have hK := (hb5.cell (p := ⟨w.heap.size + 1, 19, none⟩) hKl).trans HK.out
  have hA : wc.cell? ⟨w.heap.size + 1 + 1, 19, none⟩ = some (.int .i64 0) := by rw [cell_of_row _ _ _ _ _ _ ((hb5.block _ HL3.out).trans HA.out)]; rfl
  have HS0 : Hid (wc.cell? ⟨w3.heap.size + 1, 0, none⟩ = some (.int .i64 0) ∧ wc.cell? ⟨w3.heap.size, 0, none⟩ = some (.int .i64 4) ∧ wc.cell? ⟨w.heap.size + 1, 19, none⟩ = some (.int .i64 4)) := Lib.hid ⟨(duo hG).1.1, (nen hS).1.1, hK⟩
  have HLT := Lib.hid (show w3.heap.size + 1 < wc.heap.size ∧ w3.heap.size < wc.heap.size ∧ w.heap.size + 1 < wc.heap.size from ⟨heap_lt' hG, heap_lt' hS, by have := HL3.out; have := hb5.size; omega⟩)
  have HW := Lib.hid (below_seq HB3.out hb5 HB3.out.size)
  clear hb5 hS hG hK hA hKl HK HA HB3 HB1 HB0
  have HKN := Lib.hid (known4_any wc.drew (by obtain ⟨gt, gfr, hg⟩ := HOP.out; exact ⟨gt, gfr, (HW.out.block _ (heap_lt' hg)).trans hg⟩))
  obtain ⟨e0, e1, e2⟩ := HS0.out
  have hwr : IntKind.i64.wrap (8 : Int) = 8 := by decide
  go_region_held3 (fun w' => w'.cell? ⟨w3.heap.size + 1, 0, none⟩ = some (.int .i64 0) ∧ w'.cell? ⟨w3.heap.size, 0, none⟩ = some (.int .i64 4) ∧ w'.cell? ⟨w.heap.size + 1, 19, none⟩ = some (.int .i64 4)) (first | exact HS0.out | exact HS4.out) (first
    | (go_at_call 8; (with_reducible refine Calls.mono HKN.out ?_); rintro e w4 ⟨rfl, hb4⟩; have HB4 := Lib.hid (below_seq ((Below.refl wc.heap.size wc).drew) hb4 (Nat.le_refl _)); have HS4 : Hid (w4.cell? ⟨w3.heap.size + 1, 0, none⟩ = some (.int .i64 0) ∧ w4.cell? ⟨w3.heap.size, 0, none⟩ = some (.int .i64 4) ∧ w4.cell? ⟨w.heap.size + 1, 19, none⟩ = some (.int .i64 4)) := Lib.hid ⟨(HB4.out.cell (p := ⟨w3.heap.size + 1, 0, none⟩) HLT.out.1).trans HS0.out.1, (HB4.out.cell (p := ⟨w3.heap.size, 0, none⟩) HLT.out.2.1).trans HS0.out.2.1, (HB4.out.cell (p := ⟨w.heap.size + 1, 19, none⟩) HLT.out.2.2).trans HS0.out.2.2⟩; clear hb4 HKN))
  go_wp2_with fail
  go_ret
  exact ⟨rfl, below_seq HW.out HB4.out HW.out.size⟩

set_option maxRecDepth 8000 in
set_option maxHeartbeats 2000000 in
theorem stmtOdd_walk (n : Int) (_ : -9223372036854775808 ≤ n ∧ n ≤ 9223372036854775807) (w : World) (he : OpsIn w) :
    Calls Tryd.prog 4 #[.int .i64 n] w fun e w' => e = .returned (.bool true) ∧ Below w.heap.size w w' := by
  by_cases h : 0 ≤ n ∧ n < 20
  · have hc : n = 0 ∨ n = 1 ∨ n = 2 ∨ n = 3 ∨ n = 4 ∨ n = 5 ∨ n = 6 ∨ n = 7 ∨ n = 8 ∨ n = 9 ∨ n = 10 ∨ n = 11 ∨ n = 12 ∨ n = 13 ∨ n = 14 ∨ n = 15 ∨ n = 16 ∨ n = 17 ∨ n = 18 ∨ n = 19 := by omega
    rcases hc with rfl | rfl | rfl | rfl | rfl | rfl | rfl | rfl | rfl | rfl | rfl | rfl | rfl | rfl | rfl | rfl | rfl | rfl | rfl | rfl
    · exact odd4_0 w he
    · exact odd4_1 w he
    · exact odd4_2 w he
    · exact odd4_3 w he
    · exact odd4_4 w he
    · exact odd4_5 w he
    · exact odd4_6 w he
    · exact odd4_7 w he
    · exact odd4_8 w he
    · exact odd4_9 w he
    · exact odd4_10 w he
    · exact odd4_11 w he
    · exact odd4_12 w he
    · exact odd4_13 w he
    · exact odd4_14 w he
    · exact odd4_15 w he
    · exact odd4_16 w he
    · exact odd4_17 w he
    · exact odd4_18 w he
    · exact odd4_19 w he
  · clear he
    by_cases h0 : n < 0
    · go_enter Tryd.func4, Tryd.ntmps4
      go_wp2_with fail
      go_ret
      exact ⟨rfl, (((Below.refl _ _).alloc (Nat.le_refl _) _).alloc (by simp only [size_alloc]; omega) _).alloc (by simp only [size_alloc]; omega) _⟩
    · have h1 : 20 ≤ n := by omega
      have h2 : 0 ≤ n := by omega
      go_enter Tryd.func4, Tryd.ntmps4
      go_wp2_with fail
      go_ret
      exact ⟨rfl, (((Below.refl _ _).alloc (Nat.le_refl _) _).alloc (by simp only [size_alloc]; omega) _).alloc (by simp only [size_alloc]; omega) _⟩
end Go.Proofs.YtnnbdidefgghjaaDoor
