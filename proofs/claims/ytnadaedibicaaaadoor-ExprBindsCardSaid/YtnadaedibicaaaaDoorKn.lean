/-
  Law 3's own known text.
-/
import Derived.Test.YtnadaedibicaaaaDoorKo
import Derived.Deep.RegionHeld3
namespace Go.Proofs.YtnadaedibicaaaaDoor
open Go.RowKit
open Px (RT tokAt)
open Pe

set_option maxRecDepth 8000 in
set_option maxHeartbeats 8000000 in
theorem known_any (w : World) (hops : OpsIn w) :
    Calls Tryd.prog 10 #[] w fun e w' => e = .returned (.bool true) ∧ Below w.heap.size w w' := by
  obtain ⟨gt, gfr, hg⟩ := hops
  have HG := Lib.hid hg
  have hlt := heap_lt' hg
  clear hg
  go_enter Tryd.func10, Tryd.ntmps10
  go_wp2_with fail
  refine (tokens_are ⟨#[97, 32, 43, 32, 98, 32, 42, 32, 99]⟩ (by decide) knUs 0 0 kn_toks w).mono ?_
  rintro e w1 ⟨A, cA, rfl, hl1, hb1⟩
  have HT := Lib.hid ((toks_of (c := cA) hl1 kn_short).below ((Below.refl _ _).alloc (Nat.le_refl _) (.cells #[.int .i64 0, .int .i64 0] 25)))
  have HB1 := Lib.hid (below_seq hb1 ((Below.refl _ _).alloc (Nat.le_refl _) (.cells #[.int .i64 0, .int .i64 0] 25)) hb1.size)
  clear hl1 hb1
  go_wp2_with fail
  refine (parse_any _ _ _ (knUs.map toRT) 0 0 HT.out ⟨gt, gfr, (HB1.out.block _ hlt).trans HG.out⟩ 40 (by decide) _ kn_parse).mono ?_
  rintro e w2 ⟨xk, xn, xs, xo, xd, xp, xl, xc, xa, xb, xr, xe, xf, rfl, hi, hb2⟩
  have HI := Lib.hid hi
  obtain ⟨bl, off, c, q, qc, hv, hbl, hc0, hi0, hc1⟩ := hi.kn
  obtain ⟨rfl, rfl, rfl, rfl, rfl, hsl, rfl, rfl, rfl, rfl, rfl⟩ := exCells_inj hv
  have hs2 : xp = some ⟨bl, off, none⟩ ∧ xl = 2 ∧ xc = c := by simpa using hsl
  obtain ⟨rfl, rfl, rfl⟩ : some ⟨bl, off, none⟩ = xp ∧ 2 = xl ∧ c = xc := ⟨hs2.1.symm, hs2.2.1.symm, hs2.2.2.symm⟩
  clear hs2
  have HC0 := Lib.hid hc0
  have HI0 := Lib.hid hi0
  have HC1 := Lib.hid hc1
  have HBL := Lib.hid hbl
  have HB2 := Lib.hid hb2
  clear hi hv hbl hc0 hi0 hc1 hsl hb2
  have hb3 : Below w2.heap.size w2 ((w2.alloc (.cells #[.int .i64 14, .int .i64 0, .string (cbs []), .string (cbs []), .int .i64 0, .slice (some ⟨bl, off, none⟩) 2 c, .int .i64 2, .int .i64 0, .int .i64 0, .int .i64 0, .int .i64 0] 39)).alloc (.cells #[.int .i64 0, .int .i64 0] 25)) := ((Below.refl _ _).alloc (Nat.le_refl _) _).alloc (by rw [size_alloc]; omega) _
  have HB3 := Lib.hid hb3
  have hof := of_any ((w2.alloc (.cells #[.int .i64 14, .int .i64 0, .string (cbs []), .string (cbs []), .int .i64 0, .slice (some ⟨bl, off, none⟩) 2 c, .int .i64 2, .int .i64 0, .int .i64 0, .int .i64 0, .int .i64 0] 39)).alloc (.cells #[.int .i64 0, .int .i64 0] 25)) _ _ (knUs.map toRT) 0 ((HT.out.below HB2.out).below hb3)
  rw [kn_of] at hof
  have HOF := Lib.hid hof
  clear hof hb3
  dsimp only
  go_wp2_with fail
  refine (HOF.out).mono ?_
  rintro e w3 ⟨rfl, hb4⟩
  have HB4 := Lib.hid hb4
  have hE3 : w3.heap[w2.heap.size]? = some (.cells #[.int .i64 14, .int .i64 0, .string (cbs []), .string (cbs []), .int .i64 0, .slice (some ⟨bl, off, none⟩) 2 c, .int .i64 2, .int .i64 0, .int .i64 0, .int .i64 0, .int .i64 0] 39 (0, 0)) := (hb4.block _ (by simp only [size_alloc]; omega)).trans (alloc_box _ (heap_alloc_new w2 _))
  have hF3 : w3.heap[w2.heap.size + 1]? = some (.cells #[.int .i64 0, .int .i64 0] 25 (0, 0)) := (hb4.block _ (by simp only [size_alloc]; omega)).trans (by have := heap_alloc_new (w2.alloc (.cells #[.int .i64 14, .int .i64 0, .string (cbs []), .string (cbs []), .int .i64 0, .slice (some ⟨bl, off, none⟩) 2 c, .int .i64 2, .int .i64 0, .int .i64 0, .int .i64 0, .int .i64 0] 39)) (.cells #[.int .i64 0, .int .i64 0] 25); rw [size_alloc] at this; exact this)
  have HE3 := Lib.hid hE3
  have HF3 := Lib.hid hF3
  clear hb4 hE3 hF3 HOF
  dsimp only
  go_wp2_with fail
  obtain ⟨wc, hwc⟩ : ∃ wc, wc = (w3.alloc (.cells #[.string (cbs [97]), .int .i64 0] 32)).alloc (.cells #[.int .i64 0, .int .i64 0] 25) := ⟨_, rfl⟩
  have hb5 : Below w3.heap.size w3 wc := by rw [hwc]; exact ((Below.refl _ _).alloc (Nat.le_refl _) _).alloc (by rw [size_alloc]; omega) _
  have hO : wc.heap[w3.heap.size]? = some (.cells #[.string (cbs [97]), .int .i64 0] 32 (0, 0)) := by rw [hwc]; exact alloc_box _ (heap_alloc_new w3 _)
  have hG : wc.heap[w3.heap.size + 1]? = some (.cells #[.int .i64 0, .int .i64 0] 25 (0, 0)) := by rw [hwc]; have := heap_alloc_new (w3.alloc (.cells #[.string (cbs [97]), .int .i64 0] 32)) (.cells #[.int .i64 0, .int .i64 0] 25); rw [size_alloc] at this; exact this
  try rw [← hwc]
  clear hwc
  have hE := (hb5.block _ (heap_lt' HE3.out)).trans HE3.out
  have hF := (hb5.block _ (heap_lt' HF3.out)).trans HF3.out
  have h25 : Below w2.heap.size w2 wc := below_seq (below_seq HB3.out HB4.out HB3.out.size) hb5 (below_seq HB3.out HB4.out HB3.out.size).size
  have hK := kn_cells (fun i v hh => (h25.cell (p := ⟨bl, _, none⟩) HBL.out).trans (HC0.out i v hh))
  have hK1 := (h25.cell (p := ⟨bl, off + 11, none⟩) HBL.out).trans HC1.out
  have hlb : bl < wc.heap.size := Nat.lt_of_lt_of_le HBL.out h25.size
  have HIE := Lib.hid (HI.out.below h25)
  have HIA := Lib.hid (HI0.out.below h25)
  have HS0 := Lib.hid (kn_hold hE hF hO hG hK hK1)
  have HLT := Lib.hid (show w2.heap.size < wc.heap.size ∧ w2.heap.size + 1 < wc.heap.size ∧ w3.heap.size < wc.heap.size ∧ w3.heap.size + 1 < wc.heap.size ∧ bl < wc.heap.size from ⟨heap_lt' hE, heap_lt' hF, heap_lt' hO, heap_lt' hG, hlb⟩)
  have HW : Hid (Below w.heap.size w wc) := below_seq (below_seq HB1.out HB2.out HB1.out.size) (below_seq (below_seq HB3.out HB4.out HB3.out.size) hb5 (below_seq HB3.out HB4.out HB3.out.size).size) (below_seq HB1.out HB2.out HB1.out.size).size
  have HSA := Lib.hid (fun w1 (hb : Below wc.heap.size wc w1) => same_any w1 knE knE (HIE.out.below hb) (HIE.out.below hb) kn_fit)
  have HSB := Lib.hid (fun w1 (hb : Below wc.heap.size wc w1) => same_any w1 knE knA (HIE.out.below hb) (HIA.out.below hb) kn_fit)
  clear hE hF hO hG hK hK1 hlb hb5 h25 HT HG hlt HE3 HF3 HB1 HB2 HB3 HB4 HC0 HC1 HI0 HBL HI
  obtain ⟨e0, e1, e2, e3, e4, e5, e6, e7, e8, e9, eX, f0, g0, o0, k0, k1, k2, k3, k4, k5, k6, k7, k8, k9, kX, m0⟩ := HS0.out
  have hcmp : ((cbs [97]).toList == [97]) = true := by rw [cbs_list]; rfl
  have HD1 : Hid (Below wc.heap.size wc wc.drew) := (Below.refl _ _).drew
  go_region_held3 (fun w' => w'.cell? ⟨w2.heap.size, 0, none⟩ = some (.int .i64 14) ∧ w'.cell? ⟨w2.heap.size, 1, none⟩ = some (.int .i64 0) ∧ w'.cell? ⟨w2.heap.size, 2, none⟩ = some (.string (cbs [])) ∧ w'.cell? ⟨w2.heap.size, 3, none⟩ = some (.string (cbs [])) ∧ w'.cell? ⟨w2.heap.size, 4, none⟩ = some (.int .i64 0) ∧ w'.cell? ⟨w2.heap.size, 5, none⟩ = some (.slice (some ⟨bl, off, none⟩) 2 c) ∧ w'.cell? ⟨w2.heap.size, 6, none⟩ = some (.int .i64 2) ∧ w'.cell? ⟨w2.heap.size, 7, none⟩ = some (.int .i64 0) ∧ w'.cell? ⟨w2.heap.size, 8, none⟩ = some (.int .i64 0) ∧ w'.cell? ⟨w2.heap.size, 9, none⟩ = some (.int .i64 0) ∧ w'.cell? ⟨w2.heap.size, 10, none⟩ = some (.int .i64 0) ∧ w'.cell? ⟨w2.heap.size + 1, 0, none⟩ = some (.int .i64 0) ∧ w'.cell? ⟨w3.heap.size + 1, 0, none⟩ = some (.int .i64 0) ∧ w'.cell? ⟨w3.heap.size, 0, none⟩ = some (.string (cbs [97])) ∧ w'.cell? ⟨bl, off, none⟩ = some (.int .i64 4) ∧ w'.cell? ⟨bl, off + 1, none⟩ = some (.int .i64 0) ∧ w'.cell? ⟨bl, off + 2, none⟩ = some (.string (cbs [97])) ∧ w'.cell? ⟨bl, off + 3, none⟩ = some (.string (cbs [])) ∧ w'.cell? ⟨bl, off + 4, none⟩ = some (.int .i64 0) ∧ w'.cell? ⟨bl, off + 5, none⟩ = some (.slice q 0 qc) ∧ w'.cell? ⟨bl, off + 6, none⟩ = some (.int .i64 0) ∧ w'.cell? ⟨bl, off + 7, none⟩ = some (.int .i64 0) ∧ w'.cell? ⟨bl, off + 8, none⟩ = some (.int .i64 0) ∧ w'.cell? ⟨bl, off + 9, none⟩ = some (.int .i64 0) ∧ w'.cell? ⟨bl, off + 10, none⟩ = some (.int .i64 0) ∧ w'.cell? ⟨bl, off + 11, none⟩ = some (.int .i64 16)) (first | exact HS0.out | exact HS4.out | exact HS5.out) (first
    | (go_at_call 14; (refine Calls.mono (HSA.out _ HD1.out) ?_); rintro e w4 ⟨rfl, hb4⟩; have HB4 := Lib.hid (below_seq HD1.out hb4 HD1.out.size); have HS4 := Lib.hid (kn_go HS0.out HB4.out HLT.out.1 HLT.out.2.1 HLT.out.2.2.1 HLT.out.2.2.2.1 HLT.out.2.2.2.2); rw [kn_same1]; clear hb4 HSA HS0)
    | (go_at_call 14; (refine Calls.mono (HSB.out _ HB4.out) ?_); rintro e w5 ⟨rfl, hb5⟩; have HB5 := Lib.hid (below_seq HB4.out hb5 HB4.out.size); have HS5 := Lib.hid (kn_go HS4.out (below_seq (Below.refl _ _) hb5 (Nat.le_refl _)) (Nat.lt_of_lt_of_le HLT.out.1 HB4.out.size) (Nat.lt_of_lt_of_le HLT.out.2.1 HB4.out.size) (Nat.lt_of_lt_of_le HLT.out.2.2.1 HB4.out.size) (Nat.lt_of_lt_of_le HLT.out.2.2.2.1 HB4.out.size) (Nat.lt_of_lt_of_le HLT.out.2.2.2.2 HB4.out.size)); rw [kn_same2]; clear hb5 HSB HS4))
  go_wp2_with fail
  go_ret
  exact ⟨rfl, below_seq HW.out HB5.out HW.out.size⟩
end Go.Proofs.YtnadaedibicaaaaDoor
