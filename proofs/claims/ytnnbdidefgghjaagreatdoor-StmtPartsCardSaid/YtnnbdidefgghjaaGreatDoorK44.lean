/-
  Law 4's own known text.
-/
import Derived.Test.YtnnbdidefgghjaaGreatDoorK34
import Derived.Test.YtnnbdidefgghjaaGreatDoorK40
import Derived.Test.YtnnbdidefgghjaaGreatDoorK43
import Derived.Test.YtnnbdidefgghjaaGreatDoorK38
import Derived.Deep.RegionHeld3
namespace Go.Proofs.YtnnbdidefgghjaaGreatDoor
open Go.RowKit
open Px (RT tokAt)
open Pe
open Ps (Sm PX)

/-- The total answers of the other reader, by fuel enough. -/
noncomputable def pxOf (ts : List RT) : PX := fun k o => (parse ts (Sim.enough ts) k o).getD (Ex.zero, 0, 0, 0)
theorem isP_of {ts : List RT} (hl : ts.length ≤ 900000000) : Sim.IsP ts (pxOf ts) := by
  intro k o
  obtain ⟨x, h, -⟩ := Sim.parse_same hl k o
  unfold pxOf
  rw [h]
  rfl
theorem pok_of {ts : List RT} (hl : ts.length ≤ 90000000) {P : PX} (hP : Sim.IsP ts P) : POk ts P := by
  intro w R0 S k o h hops
  exact parse_any w R0 S ts k o h hops (Sim.enough ts) (by unfold Sim.enough; omega) _ (hP k o)

def k4Us : List Ln.Lx.Tk := [⟨4, [123], 0, 0⟩, ⟨1, [120], 0, 2⟩, ⟨4, [61], 0, 4⟩, ⟨2, [], 1, 6⟩, ⟨4, [59], 0, 7⟩, ⟨1, [102], 0, 9⟩, ⟨4, [40], 0, 10⟩, ⟨4, [41], 0, 11⟩, ⟨4, [59], 0, 12⟩, ⟨4, [125], 0, 14⟩, ⟨0, [], 0, 15⟩]
def k4P : PX := fun k o => (parse (k4Us.map toRT) 130 k o).getD (Ex.zero, 0, 0, 0)
def k4A : Sm := .mk 3 [120] [] 0 [Ex.of 1 1 [] [] 0 [] 6] [] [] 2 0
def k4B : Sm := .mk 9 [] [] 0 [Ex.of 7 0 [102] [] 0 [] 9] [] [] 9 0
set_option maxRecDepth 40000 in
theorem k4_toks : Ln.Lx.toks [123, 32, 120, 32, 61, 32, 49, 59, 32, 102, 40, 41, 59, 32, 125] = (k4Us, 0, 0) := by kernel_rfl
set_option maxRecDepth 40000 in
theorem k4_block : Ps.parseB (k4Us.map toRT) k4P 130 0 0 = some ([k4A, k4B], 10, 0, 0) := by kernel_rfl
set_option maxRecDepth 40000 in
theorem k4_stmt : Ps.parse (k4Us.map toRT) k4P 130 1 1 = some (k4A, 5, 0, 0) := by kernel_rfl
theorem k4_len : (k4Us.map toRT).length = 11 := rfl
theorem k4_isP : Sim.IsP (k4Us.map toRT) k4P := by
  intro k o
  obtain ⟨x, h, -⟩ := Sim.parse_same (ts := k4Us.map toRT) (by rw [k4_len]; decide) k o
  rw [h]
  have he : Sim.enough (k4Us.map toRT) = 130 := rfl
  rw [he] at h
  unfold k4P
  rw [h]
  rfl
theorem k4_same1 : sameM k4A k4A = true := by kernel_rfl
theorem k4_same2 : sameM k4A k4B = false := by kernel_rfl
theorem k4_fit : fitM k4A = true := by kernel_rfl
theorem k4_short : ∀ t ∈ k4Us, t.text.length ≤ 281474976710656 := by decide
theorem smCells_inj {k : Int} {n o : List UInt8} {d : Int} {v1 v2 v3 : Value} {a r : Int} {k' : Int} {n' o' : List UInt8} {d' : Int} {v1' v2' v3' : Value} {a' r' : Int} (h : smCells k n o d v1 v2 v3 a r = smCells k' n' o' d' v1' v2' v3' a' r') : k = k' ∧ n = n' ∧ o = o' ∧ d = d' ∧ v1 = v1' ∧ v2 = v2' ∧ v3 = v3' ∧ a = a' ∧ r = r' := by
  simp only [smCells, List.cons.injEq, Value.int.injEq, Value.string.injEq, true_and, and_true] at h
  obtain ⟨h1, h2, h3, h4, h5, h6, h7, h8, h9⟩ := h
  exact ⟨h1, cbs_inj h2, cbs_inj h3, h4, h5, h6, h7, h8, h9⟩
theorem nine_at0 {w : World} {b off : Nat} {k : Int} {n o : List UInt8} {d : Int} {v1 v2 v3 : Value} {a r : Int} (h : ∀ (i : Nat) (v : Value), (smCells k n o d v1 v2 v3 a r)[i]? = some v → w.cell? ⟨b, off + 0 * 9 + i, none⟩ = some v) : ∀ (i : Nat) (v : Value), (smCells k n o d v1 v2 v3 a r)[i]? = some v → w.cell? ⟨b, off + i, none⟩ = some v := by simpa using h
theorem nine_at1 {w : World} {b off : Nat} {k : Int} {n o : List UInt8} {d : Int} {v1 v2 v3 : Value} {a r : Int} (h : ∀ (i : Nat) (v : Value), (smCells k n o d v1 v2 v3 a r)[i]? = some v → w.cell? ⟨b, off + 1 * 9 + i, none⟩ = some v) : ∀ (i : Nat) (v : Value), (smCells k n o d v1 v2 v3 a r)[i]? = some v → w.cell? ⟨b, off + 9 + i, none⟩ = some v := by simpa using h
theorem k4_go {w w' : World} {A2 A3 AS bl off : Nat} {p1 q1 r1 : Option Addr} {c1 d1 f1 : Nat} {p2 q2 r2 : Option Addr} {c2 d2 f2 : Nat} {p3 q3 r3 : Option Addr} {c3 d3 f3 : Nat} (h : w.cell? ⟨A2, 0, none⟩ = some (.int .i64 0) ∧ w.cell? ⟨A3, 0, none⟩ = some (.int .i64 0) ∧ w.cell? ⟨AS, 0, none⟩ = some (.int .i64 3) ∧ w.cell? ⟨AS, 1, none⟩ = some (.string (cbs [120])) ∧ w.cell? ⟨AS, 2, none⟩ = some (.string (cbs [])) ∧ w.cell? ⟨AS, 3, none⟩ = some (.int .i64 0) ∧ w.cell? ⟨AS, 4, none⟩ = some (.slice p3 1 c3) ∧ w.cell? ⟨AS, 5, none⟩ = some (.slice q3 0 d3) ∧ w.cell? ⟨AS, 6, none⟩ = some (.slice r3 0 f3) ∧ w.cell? ⟨AS, 7, none⟩ = some (.int .i64 2) ∧ w.cell? ⟨AS, 8, none⟩ = some (.int .i64 0) ∧ w.cell? ⟨bl, off, none⟩ = some (.int .i64 3) ∧ w.cell? ⟨bl, off + 1, none⟩ = some (.string (cbs [120])) ∧ w.cell? ⟨bl, off + 2, none⟩ = some (.string (cbs [])) ∧ w.cell? ⟨bl, off + 3, none⟩ = some (.int .i64 0) ∧ w.cell? ⟨bl, off + 4, none⟩ = some (.slice p1 1 c1) ∧ w.cell? ⟨bl, off + 5, none⟩ = some (.slice q1 0 d1) ∧ w.cell? ⟨bl, off + 6, none⟩ = some (.slice r1 0 f1) ∧ w.cell? ⟨bl, off + 7, none⟩ = some (.int .i64 2) ∧ w.cell? ⟨bl, off + 8, none⟩ = some (.int .i64 0) ∧ w.cell? ⟨bl, off + 9, none⟩ = some (.int .i64 9) ∧ w.cell? ⟨bl, off + 9 + 1, none⟩ = some (.string (cbs [])) ∧ w.cell? ⟨bl, off + 9 + 2, none⟩ = some (.string (cbs [])) ∧ w.cell? ⟨bl, off + 9 + 3, none⟩ = some (.int .i64 0) ∧ w.cell? ⟨bl, off + 9 + 4, none⟩ = some (.slice p2 1 c2) ∧ w.cell? ⟨bl, off + 9 + 5, none⟩ = some (.slice q2 0 d2) ∧ w.cell? ⟨bl, off + 9 + 6, none⟩ = some (.slice r2 0 f2) ∧ w.cell? ⟨bl, off + 9 + 7, none⟩ = some (.int .i64 9) ∧ w.cell? ⟨bl, off + 9 + 8, none⟩ = some (.int .i64 0)) (hb : Below w.heap.size w w') (l2 : A2 < w.heap.size) (l3 : A3 < w.heap.size) (ls : AS < w.heap.size) (lb : bl < w.heap.size) : w'.cell? ⟨A2, 0, none⟩ = some (.int .i64 0) ∧ w'.cell? ⟨A3, 0, none⟩ = some (.int .i64 0) ∧ w'.cell? ⟨AS, 0, none⟩ = some (.int .i64 3) ∧ w'.cell? ⟨AS, 1, none⟩ = some (.string (cbs [120])) ∧ w'.cell? ⟨AS, 2, none⟩ = some (.string (cbs [])) ∧ w'.cell? ⟨AS, 3, none⟩ = some (.int .i64 0) ∧ w'.cell? ⟨AS, 4, none⟩ = some (.slice p3 1 c3) ∧ w'.cell? ⟨AS, 5, none⟩ = some (.slice q3 0 d3) ∧ w'.cell? ⟨AS, 6, none⟩ = some (.slice r3 0 f3) ∧ w'.cell? ⟨AS, 7, none⟩ = some (.int .i64 2) ∧ w'.cell? ⟨AS, 8, none⟩ = some (.int .i64 0) ∧ w'.cell? ⟨bl, off, none⟩ = some (.int .i64 3) ∧ w'.cell? ⟨bl, off + 1, none⟩ = some (.string (cbs [120])) ∧ w'.cell? ⟨bl, off + 2, none⟩ = some (.string (cbs [])) ∧ w'.cell? ⟨bl, off + 3, none⟩ = some (.int .i64 0) ∧ w'.cell? ⟨bl, off + 4, none⟩ = some (.slice p1 1 c1) ∧ w'.cell? ⟨bl, off + 5, none⟩ = some (.slice q1 0 d1) ∧ w'.cell? ⟨bl, off + 6, none⟩ = some (.slice r1 0 f1) ∧ w'.cell? ⟨bl, off + 7, none⟩ = some (.int .i64 2) ∧ w'.cell? ⟨bl, off + 8, none⟩ = some (.int .i64 0) ∧ w'.cell? ⟨bl, off + 9, none⟩ = some (.int .i64 9) ∧ w'.cell? ⟨bl, off + 9 + 1, none⟩ = some (.string (cbs [])) ∧ w'.cell? ⟨bl, off + 9 + 2, none⟩ = some (.string (cbs [])) ∧ w'.cell? ⟨bl, off + 9 + 3, none⟩ = some (.int .i64 0) ∧ w'.cell? ⟨bl, off + 9 + 4, none⟩ = some (.slice p2 1 c2) ∧ w'.cell? ⟨bl, off + 9 + 5, none⟩ = some (.slice q2 0 d2) ∧ w'.cell? ⟨bl, off + 9 + 6, none⟩ = some (.slice r2 0 f2) ∧ w'.cell? ⟨bl, off + 9 + 7, none⟩ = some (.int .i64 9) ∧ w'.cell? ⟨bl, off + 9 + 8, none⟩ = some (.int .i64 0) := by
  obtain ⟨e0, e1, e2, e3, e4, e5, e6, e7, e8, e9, e10, e11, e12, e13, e14, e15, e16, e17, e18, e19, e20, e21, e22, e23, e24, e25, e26, e27, e28⟩ := h
  exact ⟨(hb.cell (p := ⟨A2, 0, none⟩) l2).trans e0, (hb.cell (p := ⟨A3, 0, none⟩) l3).trans e1, (hb.cell (p := ⟨AS, 0, none⟩) ls).trans e2, (hb.cell (p := ⟨AS, 1, none⟩) ls).trans e3, (hb.cell (p := ⟨AS, 2, none⟩) ls).trans e4, (hb.cell (p := ⟨AS, 3, none⟩) ls).trans e5, (hb.cell (p := ⟨AS, 4, none⟩) ls).trans e6, (hb.cell (p := ⟨AS, 5, none⟩) ls).trans e7, (hb.cell (p := ⟨AS, 6, none⟩) ls).trans e8, (hb.cell (p := ⟨AS, 7, none⟩) ls).trans e9, (hb.cell (p := ⟨AS, 8, none⟩) ls).trans e10, (hb.cell (p := ⟨bl, off, none⟩) lb).trans e11, (hb.cell (p := ⟨bl, off + 1, none⟩) lb).trans e12, (hb.cell (p := ⟨bl, off + 2, none⟩) lb).trans e13, (hb.cell (p := ⟨bl, off + 3, none⟩) lb).trans e14, (hb.cell (p := ⟨bl, off + 4, none⟩) lb).trans e15, (hb.cell (p := ⟨bl, off + 5, none⟩) lb).trans e16, (hb.cell (p := ⟨bl, off + 6, none⟩) lb).trans e17, (hb.cell (p := ⟨bl, off + 7, none⟩) lb).trans e18, (hb.cell (p := ⟨bl, off + 8, none⟩) lb).trans e19, (hb.cell (p := ⟨bl, off + 9, none⟩) lb).trans e20, (hb.cell (p := ⟨bl, off + 9 + 1, none⟩) lb).trans e21, (hb.cell (p := ⟨bl, off + 9 + 2, none⟩) lb).trans e22, (hb.cell (p := ⟨bl, off + 9 + 3, none⟩) lb).trans e23, (hb.cell (p := ⟨bl, off + 9 + 4, none⟩) lb).trans e24, (hb.cell (p := ⟨bl, off + 9 + 5, none⟩) lb).trans e25, (hb.cell (p := ⟨bl, off + 9 + 6, none⟩) lb).trans e26, (hb.cell (p := ⟨bl, off + 9 + 7, none⟩) lb).trans e27, (hb.cell (p := ⟨bl, off + 9 + 8, none⟩) lb).trans e28⟩

set_option maxRecDepth 8000 in
set_option maxHeartbeats 16000000 in
theorem known4_any (w : World) (hops : OpsIn w) :
    Calls Tryz.prog 9 #[] w fun e w' => e = .returned (.bool true) ∧ Below w.heap.size w w' := by
  obtain ⟨gt, gfr, hg⟩ := hops
  have HG := Lib.hid hg
  have hlt := heap_lt' hg
  clear hg
  go_enter Tryz.func9, Tryz.ntmps9
  go_wp2_with fail
  refine (tokens_are ⟨#[123, 32, 120, 32, 61, 32, 49, 59, 32, 102, 40, 41, 59, 32, 125]⟩ (by decide) k4Us 0 0 k4_toks w).mono ?_
  rintro e w1 ⟨A, cA, rfl, hl1, hb1⟩
  have hbf : Below w1.heap.size w1 (w1.alloc (.cells #[.int .i64 0, .int .i64 0] 25)) := (Below.refl _ _).alloc (Nat.le_refl _) _
  have HT := Lib.hid ((toks_of (c := cA) hl1 k4_short).below hbf)
  have HB1 := Lib.hid (below_seq hb1 hbf hb1.size)
  clear hl1 hb1 hbf
  go_wp2_with fail
  refine (blParse_any _ _ _ (k4Us.map toRT) k4P (pok_of (by rw [k4_len]; decide) k4_isP) 0 0 HT.out ⟨gt, gfr, (HB1.out.block _ hlt).trans HG.out⟩ 130 (by decide) _ k4_block).mono ?_
  rintro e w2 ⟨bp, bc, rfl, hs, hb2⟩
  rcases hs with hs | ⟨bl, off, rfl, hbl, hbB, ha⟩
  · cases hs
  obtain ⟨vs1, hi1, hc1⟩ := SAt.get _ off 0 k4A ha rfl
  obtain ⟨vs2, hi2, hc2⟩ := SAt.get _ off 1 k4B ha rfl
  obtain ⟨p1, c1, q1, d1, r1, f1, rfl, -⟩ := hi1.parts
  obtain ⟨p2, c2, q2, d2, r2, f2, rfl, -⟩ := hi2.parts
  have HI1 := Lib.hid hi1
  have HI2 := Lib.hid hi2
  have HC1 := Lib.hid (nine_of (nine_at0 hc1))
  have HC2 := Lib.hid (nine_of (nine_at1 hc2))
  have HBL := Lib.hid hbl
  have hbg : Below w2.heap.size w2 (w2.alloc (.cells #[.int .i64 0, .int .i64 0] 25)) := (Below.refl _ _).alloc (Nat.le_refl _) _
  have HB2 := Lib.hid (below_seq (below_seq HB1.out hb2 HB1.out.size) hbg (below_seq HB1.out hb2 HB1.out.size).size)
  have HT2 := Lib.hid ((HT.out.below hb2).below hbg)
  clear ha hi1 hi2 hc1 hc2 hbl hbB hb2
  dsimp only
  go_wp2_with fail
  refine (stParse_any _ _ _ (k4Us.map toRT) k4P (pok_of (by rw [k4_len]; decide) k4_isP) 1 1 HT2.out ⟨gt, gfr, (HB2.out.block _ hlt).trans HG.out⟩ 130 (by decide) _ k4_stmt).mono ?_
  rintro e w3 ⟨sk, sn, so, sd, sep, sel, sec, sbp, sbl, sbc, slp, sll, slc, sa, sr, rfl, hs, hb3⟩
  obtain ⟨p3, c3, q3, d3, r3, f3, hv, -⟩ := hs.parts
  obtain ⟨rfl, rfl, rfl, rfl, hv1, hv2, hv3, rfl, rfl⟩ := smCells_inj hv
  have HS := Lib.hid hs
  simp only [List.length_cons, List.length_nil, Value.slice.injEq] at hv1 hv2 hv3
  obtain ⟨rfl, rfl, rfl⟩ := hv1
  obtain ⟨rfl, rfl, rfl⟩ := hv2
  obtain ⟨rfl, rfl, rfl⟩ := hv3
  clear hs hv
  dsimp only
  have HF2 := Lib.hid ((hb3.block _ (heap_lt' (heap_alloc_new w2 (.cells #[.int .i64 0, .int .i64 0] 25)))).trans (heap_alloc_new w2 (.cells #[.int .i64 0, .int .i64 0] 25)))
  have hb23 := below_seq hbg hb3 hbg.size
  have HB23 := Lib.hid hb23
  have HB3 := Lib.hid (below_seq HB2.out hb3 HB2.out.size)
  clear hb3 hbg hb23
  go_wp2_with fail
  obtain ⟨wc, hwc⟩ : ∃ wc, wc = (w3.alloc (.cells #[.int .i64 3, .string (cbs [120]), .string (cbs []), .int .i64 0, .slice sep 1 sec, .slice sbp 0 sbc, .slice slp 0 slc, .int .i64 2, .int .i64 0] 38)).alloc (.cells #[.int .i64 0, .int .i64 0] 25) := ⟨_, rfl⟩
  try rw [← hwc]
  have hb5 : Below w3.heap.size w3 wc := by rw [hwc]; exact ((Below.refl _ _).alloc (Nat.le_refl _) _).alloc (by rw [size_alloc]; omega) _
  have hS : wc.heap[w3.heap.size]? = some (.cells #[.int .i64 3, .string (cbs [120]), .string (cbs []), .int .i64 0, .slice sep 1 sec, .slice sbp 0 sbc, .slice slp 0 slc, .int .i64 2, .int .i64 0] 38 (0, 0)) := by rw [hwc]; exact alloc_box _ (heap_alloc_new w3 _)
  have hG : wc.heap[w3.heap.size + 1]? = some (.cells #[.int .i64 0, .int .i64 0] 25 (0, 0)) := by rw [hwc]; have := heap_alloc_new (w3.alloc (.cells #[.int .i64 3, .string (cbs [120]), .string (cbs []), .int .i64 0, .slice sep 1 sec, .slice sbp 0 sbc, .slice slp 0 slc, .int .i64 2, .int .i64 0] 38)) (.cells #[.int .i64 0, .int .i64 0] 25); rw [size_alloc] at this; exact this
  clear hwc
  have h2c := below_seq HB23.out hb5 HB23.out.size
  have hF := (hb5.block _ (heap_lt' HF2.out)).trans HF2.out
  obtain ⟨⟨s0, s1, s2, s3, s4, s5, s6, s7, s8⟩, -⟩ := nen hS
  obtain ⟨x0, x1, x2, x3, x4, x5, x6, x7, x8⟩ := HC1.out
  obtain ⟨y0, y1, y2, y3, y4, y5, y6, y7, y8⟩ := HC2.out
  have HS0 : Hid (wc.cell? ⟨w2.heap.size, 0, none⟩ = some (.int .i64 0) ∧ wc.cell? ⟨w3.heap.size + 1, 0, none⟩ = some (.int .i64 0) ∧ wc.cell? ⟨w3.heap.size, 0, none⟩ = some (.int .i64 3) ∧ wc.cell? ⟨w3.heap.size, 1, none⟩ = some (.string (cbs [120])) ∧ wc.cell? ⟨w3.heap.size, 2, none⟩ = some (.string (cbs [])) ∧ wc.cell? ⟨w3.heap.size, 3, none⟩ = some (.int .i64 0) ∧ wc.cell? ⟨w3.heap.size, 4, none⟩ = some (.slice sep 1 sec) ∧ wc.cell? ⟨w3.heap.size, 5, none⟩ = some (.slice sbp 0 sbc) ∧ wc.cell? ⟨w3.heap.size, 6, none⟩ = some (.slice slp 0 slc) ∧ wc.cell? ⟨w3.heap.size, 7, none⟩ = some (.int .i64 2) ∧ wc.cell? ⟨w3.heap.size, 8, none⟩ = some (.int .i64 0) ∧ wc.cell? ⟨bl, off, none⟩ = some (.int .i64 3) ∧ wc.cell? ⟨bl, off + 1, none⟩ = some (.string (cbs [120])) ∧ wc.cell? ⟨bl, off + 2, none⟩ = some (.string (cbs [])) ∧ wc.cell? ⟨bl, off + 3, none⟩ = some (.int .i64 0) ∧ wc.cell? ⟨bl, off + 4, none⟩ = some (.slice p1 1 c1) ∧ wc.cell? ⟨bl, off + 5, none⟩ = some (.slice q1 0 d1) ∧ wc.cell? ⟨bl, off + 6, none⟩ = some (.slice r1 0 f1) ∧ wc.cell? ⟨bl, off + 7, none⟩ = some (.int .i64 2) ∧ wc.cell? ⟨bl, off + 8, none⟩ = some (.int .i64 0) ∧ wc.cell? ⟨bl, off + 9, none⟩ = some (.int .i64 9) ∧ wc.cell? ⟨bl, off + 9 + 1, none⟩ = some (.string (cbs [])) ∧ wc.cell? ⟨bl, off + 9 + 2, none⟩ = some (.string (cbs [])) ∧ wc.cell? ⟨bl, off + 9 + 3, none⟩ = some (.int .i64 0) ∧ wc.cell? ⟨bl, off + 9 + 4, none⟩ = some (.slice p2 1 c2) ∧ wc.cell? ⟨bl, off + 9 + 5, none⟩ = some (.slice q2 0 d2) ∧ wc.cell? ⟨bl, off + 9 + 6, none⟩ = some (.slice r2 0 f2) ∧ wc.cell? ⟨bl, off + 9 + 7, none⟩ = some (.int .i64 9) ∧ wc.cell? ⟨bl, off + 9 + 8, none⟩ = some (.int .i64 0)) := Lib.hid ⟨(duo hF).1.1, (duo hG).1.1, s0, s1, s2, s3, s4, s5, s6, s7, s8, (h2c.cell (p := ⟨bl, off, none⟩) HBL.out).trans x0, (h2c.cell (p := ⟨bl, off + 1, none⟩) HBL.out).trans x1, (h2c.cell (p := ⟨bl, off + 2, none⟩) HBL.out).trans x2, (h2c.cell (p := ⟨bl, off + 3, none⟩) HBL.out).trans x3, (h2c.cell (p := ⟨bl, off + 4, none⟩) HBL.out).trans x4, (h2c.cell (p := ⟨bl, off + 5, none⟩) HBL.out).trans x5, (h2c.cell (p := ⟨bl, off + 6, none⟩) HBL.out).trans x6, (h2c.cell (p := ⟨bl, off + 7, none⟩) HBL.out).trans x7, (h2c.cell (p := ⟨bl, off + 8, none⟩) HBL.out).trans x8, (h2c.cell (p := ⟨bl, off + 9, none⟩) HBL.out).trans y0, (h2c.cell (p := ⟨bl, off + 9 + 1, none⟩) HBL.out).trans y1, (h2c.cell (p := ⟨bl, off + 9 + 2, none⟩) HBL.out).trans y2, (h2c.cell (p := ⟨bl, off + 9 + 3, none⟩) HBL.out).trans y3, (h2c.cell (p := ⟨bl, off + 9 + 4, none⟩) HBL.out).trans y4, (h2c.cell (p := ⟨bl, off + 9 + 5, none⟩) HBL.out).trans y5, (h2c.cell (p := ⟨bl, off + 9 + 6, none⟩) HBL.out).trans y6, (h2c.cell (p := ⟨bl, off + 9 + 7, none⟩) HBL.out).trans y7, (h2c.cell (p := ⟨bl, off + 9 + 8, none⟩) HBL.out).trans y8⟩
  have HLT := Lib.hid (show w2.heap.size < wc.heap.size ∧ w3.heap.size + 1 < wc.heap.size ∧ w3.heap.size < wc.heap.size ∧ bl < wc.heap.size from ⟨heap_lt' hF, heap_lt' hG, heap_lt' hS, Nat.lt_of_lt_of_le HBL.out h2c.size⟩)
  have HW := Lib.hid (below_seq HB3.out hb5 HB3.out.size)
  have HIS := Lib.hid (SIs.below HS.out hb5)
  have HIA := Lib.hid (SIs.below HI1.out h2c)
  have HIB := Lib.hid (SIs.below HI2.out h2c)
  have HSA := Lib.hid (fun w1 (hb : Below wc.heap.size wc w1) => ssame_any w1 k4A k4A (SIs.below HIS.out hb) (SIs.below HIA.out hb) k4_fit)
  have HSB := Lib.hid (fun w1 (hb : Below wc.heap.size wc w1) => ssame_any w1 k4A k4B (SIs.below HIS.out hb) (SIs.below HIB.out hb) k4_fit)
  clear hb5 hS hG h2c hF s0 s1 s2 s3 s4 s5 s6 s7 s8 x0 x1 x2 x3 x4 x5 x6 x7 x8 y0 y1 y2 y3 y4 y5 y6 y7 y8 HC1 HC2 HBL HI1 HI2 HF2 HB23 HB1 HB2 HB3 HT HT2 HG hlt
  obtain ⟨e0, e1, e2, e3, e4, e5, e6, e7, e8, e9, e10, e11, e12, e13, e14, e15, e16, e17, e18, e19, e20, e21, e22, e23, e24, e25, e26, e27, e28⟩ := HS0.out
  have hcmp : ((cbs [120]).toList == [120]) = true := by rw [cbs_list]; rfl
  have HD1 : Hid (Below wc.heap.size wc wc.drew) := (Below.refl _ _).drew
  go_region_held3 (fun w' => w'.cell? ⟨w2.heap.size, 0, none⟩ = some (.int .i64 0) ∧ w'.cell? ⟨w3.heap.size + 1, 0, none⟩ = some (.int .i64 0) ∧ w'.cell? ⟨w3.heap.size, 0, none⟩ = some (.int .i64 3) ∧ w'.cell? ⟨w3.heap.size, 1, none⟩ = some (.string (cbs [120])) ∧ w'.cell? ⟨w3.heap.size, 2, none⟩ = some (.string (cbs [])) ∧ w'.cell? ⟨w3.heap.size, 3, none⟩ = some (.int .i64 0) ∧ w'.cell? ⟨w3.heap.size, 4, none⟩ = some (.slice sep 1 sec) ∧ w'.cell? ⟨w3.heap.size, 5, none⟩ = some (.slice sbp 0 sbc) ∧ w'.cell? ⟨w3.heap.size, 6, none⟩ = some (.slice slp 0 slc) ∧ w'.cell? ⟨w3.heap.size, 7, none⟩ = some (.int .i64 2) ∧ w'.cell? ⟨w3.heap.size, 8, none⟩ = some (.int .i64 0) ∧ w'.cell? ⟨bl, off, none⟩ = some (.int .i64 3) ∧ w'.cell? ⟨bl, off + 1, none⟩ = some (.string (cbs [120])) ∧ w'.cell? ⟨bl, off + 2, none⟩ = some (.string (cbs [])) ∧ w'.cell? ⟨bl, off + 3, none⟩ = some (.int .i64 0) ∧ w'.cell? ⟨bl, off + 4, none⟩ = some (.slice p1 1 c1) ∧ w'.cell? ⟨bl, off + 5, none⟩ = some (.slice q1 0 d1) ∧ w'.cell? ⟨bl, off + 6, none⟩ = some (.slice r1 0 f1) ∧ w'.cell? ⟨bl, off + 7, none⟩ = some (.int .i64 2) ∧ w'.cell? ⟨bl, off + 8, none⟩ = some (.int .i64 0) ∧ w'.cell? ⟨bl, off + 9, none⟩ = some (.int .i64 9) ∧ w'.cell? ⟨bl, off + 9 + 1, none⟩ = some (.string (cbs [])) ∧ w'.cell? ⟨bl, off + 9 + 2, none⟩ = some (.string (cbs [])) ∧ w'.cell? ⟨bl, off + 9 + 3, none⟩ = some (.int .i64 0) ∧ w'.cell? ⟨bl, off + 9 + 4, none⟩ = some (.slice p2 1 c2) ∧ w'.cell? ⟨bl, off + 9 + 5, none⟩ = some (.slice q2 0 d2) ∧ w'.cell? ⟨bl, off + 9 + 6, none⟩ = some (.slice r2 0 f2) ∧ w'.cell? ⟨bl, off + 9 + 7, none⟩ = some (.int .i64 9) ∧ w'.cell? ⟨bl, off + 9 + 8, none⟩ = some (.int .i64 0)) (first | exact HS0.out | exact HS4.out | exact HS5.out) (first
    | (go_at_call 13; (refine Calls.mono (HSA.out _ HD1.out) ?_); rintro e w4 ⟨rfl, hb4⟩; have HB4 := Lib.hid (below_seq HD1.out hb4 HD1.out.size); have HS4 := Lib.hid (k4_go HS0.out HB4.out HLT.out.1 HLT.out.2.1 HLT.out.2.2.1 HLT.out.2.2.2); rw [k4_same1]; clear hb4 HSA HS0)
    | (go_at_call 13; (refine Calls.mono (HSB.out _ HB4.out) ?_); rintro e w5 ⟨rfl, hb5⟩; have HB5 := Lib.hid (below_seq HB4.out hb5 HB4.out.size); have HS5 := Lib.hid (k4_go HS4.out (below_seq (Below.refl _ _) hb5 (Nat.le_refl _)) (Nat.lt_of_lt_of_le HLT.out.1 HB4.out.size) (Nat.lt_of_lt_of_le HLT.out.2.1 HB4.out.size) (Nat.lt_of_lt_of_le HLT.out.2.2.1 HB4.out.size) (Nat.lt_of_lt_of_le HLT.out.2.2.2 HB4.out.size)); rw [k4_same2]; clear hb5 HSB HS4))
  go_wp2_with fail
  go_ret
  exact ⟨rfl, below_seq HW.out HB5.out HW.out.size⟩
end Go.Proofs.YtnnbdidefgghjaaGreatDoor
