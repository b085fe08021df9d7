/-
  What the project's Parse answers of any text, in plain data; law 5's own known text.
-/
import Derived.Test.YtnadaedibicaaaaGreatDoorK24
import Derived.Test.YtnadaedibicaaaaGreatDoorK41
import Derived.Test.YtnadaedibicaaaaGreatDoorK47
import Derived.Test.YtnadaedibicaaaaGreatDoorK48
namespace Go.Proofs.YtnadaedibicaaaaGreatDoor
open Go.RowKit
open Px (RT tokAt)
open Pe
open Ps (Sm PX)
open Pg (BX Pm Rc Fc Gm)

theorem poks_of {ts : List RT} (hl : ts.length ≤ 90000000) {P : PX} (hP : Sim.IsP ts P) : POk ts P := by
  intro w R0 S k o h hops
  exact parse_any w R0 S ts k o h hops (Sim.enough ts) (by unfold Sim.enough; omega) _ (hP k o)
/-- What the readers of expressions and of blocks answer, by so much fuel. -/
def pxB (us : List Ln.Lx.Tk) (f : Nat) : PX := fun k o => (parse (us.map toRT) f k o).getD (Ex.zero, 0, 0, 0)
def bxB (us : List Ln.Lx.Tk) (f : Nat) : BX := fun k => (Ps.parseB (us.map toRT) (pxB us f) f k 0).getD ([], 0, 0, 0)
def fuelOf (us : List Ln.Lx.Tk) : Nat := 10 * us.length + 20
theorem fuel_is (us : List Ln.Lx.Tk) : Sim.enough (us.map toRT) = fuelOf us := by unfold Sim.enough fuelOf; rw [List.length_map]
theorem pxB_is {us : List Ln.Lx.Tk} (hs : us.length ≤ 6001) : Sim.IsP (us.map toRT) (pxB us (fuelOf us)) := by
  intro k o
  obtain ⟨x, h, -⟩ := Sim.parse_same (ts := us.map toRT) (by rw [List.length_map]; omega) k o
  rw [h]
  rw [fuel_is] at h
  unfold pxB
  rw [h]
  rfl
theorem bxB_is {us : List Ln.Lx.Tk} (hs : us.length ≤ 6001) : Sim.IsB (us.map toRT) (pxB us (fuelOf us)) (bxB us (fuelOf us)) := by
  intro k
  obtain ⟨x, h, -⟩ := Sim.block_same (ts := us.map toRT) (by rw [List.length_map]; omega) (pxB_is hs) k 0
  rw [h]
  rw [fuel_is] at h
  unfold bxB
  rw [h]
  rfl
theorem bxB_ok {us : List Ln.Lx.Tk} (hs : us.length ≤ 6001) : BOk (us.map toRT) (bxB us (fuelOf us)) := by
  have hl : (us.map toRT).length ≤ 90000000 := by rw [List.length_map]; omega
  refine outermost_any (poks_of hl (pxB_is hs)) (f := fuelOf us) (by unfold fuelOf; omega) fun k => ?_
  have := bxB_is hs k
  rw [fuel_is] at this
  exact this
def runOf (us : List Ln.Lx.Tk) : Option (Gm × Int × Int) := Pg.run (us.map toRT) (bxB us (fuelOf us)) (fuelOf us)
theorem runOf_some {us : List Ln.Lx.Tk} (hs : us.length ≤ 6001) : ∃ x, runOf us = some x := by
  obtain ⟨x, h, -⟩ := Sim.prog_same (ts := us.map toRT) (by rw [List.length_map]; omega) (pxB_is hs) (bxB_is hs)
  rw [fuel_is] at h
  exact ⟨x, h⟩
/-- What Parse answers. -/
def answer (l : List UInt8) : Gm × Int × Int :=
  if (Ln.Lx.toks l).2.1 = 0 then (runOf (Ln.Lx.toks l).1).getD (Gm.zero, 0, 0) else (Gm.zero, ((Ln.Lx.toks l).2.1 : Nat), ((Ln.Lx.toks l).2.2 : Nat))
theorem parse_at (s : ByteArray) (hs : s.size ≤ maxLen) (w : World) (he : EnvG w) : Calls Tryz.prog 8 #[.string s] w (PaPost w (answer s.data.toList)) := by
  obtain ⟨us, E, K, h⟩ : ∃ us E K, Ln.Lx.toks s.data.toList = (us, E, K) := ⟨_, _, _, rfl⟩
  have hl := Ln.Lx.toks_len s.data.toList
  unfold answer
  rw [h] at hl ⊢
  dsimp only at hl ⊢
  by_cases hE : E = 0
  · subst hE
    rw [if_pos rfl]
    obtain ⟨x, hx⟩ := runOf_some hl
    rw [hx]
    exact parse_ok s hs us K h w he _ (bxB_ok hl) (fuelOf us) (by unfold fuelOf; omega) x hx
  · rw [if_neg hE]
    exact parse_bad s hs us E K h hE w he

def k5T : List UInt8 := [114, 101, 99, 111, 114, 100, 32, 82, 32, 123, 32, 97, 58, 32, 105, 110, 116, 59, 32, 125, 32, 102, 117, 110, 99, 32, 109, 97, 105, 110, 40, 41, 32, 123, 32, 112, 114, 105, 110, 116, 32, 49, 59, 32, 125, 32, 103, 108, 111, 98, 97, 108, 32, 103, 58, 32, 91, 82, 93, 59]
def k5G : Gm := ⟨[⟨[82], [⟨[97], [105, 110, 116], 0, 11⟩], 7⟩], [⟨[103], [82], 1, 53⟩], [⟨[109, 97, 105, 110], [], false, [], 0, [.mk 8 [] [] 0 [Ex.of 1 1 [] [] 0 [] 41] [] [] 35 0], 26⟩]⟩
set_option maxRecDepth 100000 in
theorem k5_answer : answer k5T = (k5G, 0, 0) := by kernel_rfl
theorem k5_same1 : sameG k5G k5G = true := by kernel_rfl
theorem k5_same2 : sameG k5G Gm.zero = false := by kernel_rfl
theorem k5_fit : fitG k5G := by
  refine ⟨by decide, by decide, by decide, fun x hx => ?_, fun x hx => ?_⟩
  · simp only [k5G, List.mem_singleton] at hx
    subst hx
    show 1 ≤ 9000000000
    decide
  · simp only [k5G, List.mem_singleton] at hx
    subst hx
    exact ⟨by show 0 ≤ 9000000000; decide, by show 1 ≤ 9000000000; decide, by kernel_rfl⟩

set_option maxRecDepth 8000 in
set_option maxHeartbeats 16000000 in
theorem known5_any (w : World) (he : EnvG w) :
    Calls Tryz.prog 12 #[] w fun e w' => e = .returned (.bool true) ∧ Below w.heap.size w w' := by
  have hp := parse_at ⟨#[114, 101, 99, 111, 114, 100, 32, 82, 32, 123, 32, 97, 58, 32, 105, 110, 116, 59, 32, 125, 32, 102, 117, 110, 99, 32, 109, 97, 105, 110, 40, 41, 32, 123, 32, 112, 114, 105, 110, 116, 32, 49, 59, 32, 125, 32, 103, 108, 111, 98, 97, 108, 32, 103, 58, 32, 91, 82, 93, 59]⟩ (by decide) w he
  rw [show answer (⟨#[114, 101, 99, 111, 114, 100, 32, 82, 32, 123, 32, 97, 58, 32, 105, 110, 116, 59, 32, 125, 32, 102, 117, 110, 99, 32, 109, 97, 105, 110, 40, 41, 32, 123, 32, 112, 114, 105, 110, 116, 32, 49, 59, 32, 125, 32, 103, 108, 111, 98, 97, 108, 32, 103, 58, 32, 91, 82, 93, 59]⟩ : ByteArray).data.toList = (k5G, 0, 0) from k5_answer] at hp
  have HP := Lib.hid hp
  clear hp he
  go_enter Tryz.func12, Tryz.ntmps12
  go_wp2_with fail
  refine HP.out.mono ?_
  rintro e w1 ⟨p1, n1, c1, p2, n2, c2, p4, n4, c4, rfl, hgi, hb1⟩
  obtain ⟨q1, d1, q2, d2, q4, d4, hv, hl1, hl2, hl4⟩ := id hgi
  have hv1 := (List.cons.inj hv).1
  have hv2 := (List.cons.inj (List.cons.inj hv).2).1
  have hv4 := (List.cons.inj (List.cons.inj (List.cons.inj hv).2).2).1
  injection hv1 with a1 a2 a3
  injection hv2 with a4 a5 a6
  injection hv4 with a7 a8 a9
  obtain rfl : n1 = 1 := a2
  obtain rfl : n2 = 1 := a5
  obtain rfl : n4 = 1 := a8
  subst a1 a3 a4 a6 a7 a9
  clear hv
  obtain ⟨b1, o1, vs1, rfl, hbl1, ⟨rp, rc, rfl, -⟩, hc1⟩ := hl1.get (i := 0) rfl
  obtain ⟨b2, o2, vs2, rfl, hbl2, hi2, hc2⟩ := hl2.get (i := 0) rfl
  rw [PIs] at hi2
  subst hi2
  have hr := hc1 2 _ (by decide) rfl
  have hg := hc2 2 _ (by decide) rfl
  simp only [Nat.zero_mul, Nat.add_zero] at hr hg
  have HGI := Lib.hid hgi
  have HB1 := Lib.hid hb1
  have hne1 : b1 ≠ w1.heap.size := Nat.ne_of_lt hbl1
  have hne2 : b2 ≠ w1.heap.size := Nat.ne_of_lt hbl2
  have hne3 : b1 ≠ w1.heap.size + 1 := by omega
  have hne4 : b2 ≠ w1.heap.size + 1 := by omega
  clear hgi hb1 hl1 hl2 hl4 hc1 hc2 HP
  go_wp2_with fail
  have hba : Below w1.heap.size w1 ((w1.alloc (.cells #[.slice (some ⟨b1, o1, none⟩) 1 c1, .slice (some ⟨b2, o2, none⟩) 1 c2, .slice p4 1 c4] 26)).alloc (.cells #[.int .i64 0, .int .i64 0] 29)) := ((Below.refl _ _).alloc (Nat.le_refl _) _).alloc (by rw [size_alloc]; omega) _
  have HG2 := Lib.hid (HGI.out.ag (Ag.below hba))
  have HB2 := Lib.hid (below_seq HB1.out hba HB1.out.size)
  have hk := alloc_box (.cells #[.int .i64 0, .int .i64 0] 29) (heap_alloc_new w1 (.cells #[.slice (some ⟨b1, o1, none⟩) 1 c1, .slice (some ⟨b2, o2, none⟩) 1 c2, .slice p4 1 c4] 26))
  have HK := Lib.hid hk
  clear hk hba hr hg hne1 hne2 hne3 hne4 hbl1 hbl2
  have hs1 := same_prog _ k5G k5G HG2.out HG2.out k5_fit
  rw [k5_same1] at hs1
  refine hs1.mono ?_
  rintro e w2 ⟨rfl, hb2⟩
  have HG3 := Lib.hid (HG2.out.ag (Ag.below hb2))
  have HB3 := Lib.hid (below_seq HB2.out hb2 HB2.out.size)
  obtain ⟨⟨x0, x1, x2⟩, -⟩ := tri ((hb2.block _ (heap_lt' HK.out)).trans HK.out)
  clear hb2 hs1
  go_wp2_with fail
  have hs2 := same_prog _ k5G Gm.zero HG3.out (GIs.zero (B := 0)) k5_fit
  rw [k5_same2] at hs2
  refine hs2.mono ?_
  rintro e w3 ⟨rfl, hb3⟩
  go_wp2_with fail
  go_ret
  exact ⟨rfl, below_seq HB3.out hb3 HB3.out.size⟩
end Go.Proofs.YtnadaedibicaaaaGreatDoor
