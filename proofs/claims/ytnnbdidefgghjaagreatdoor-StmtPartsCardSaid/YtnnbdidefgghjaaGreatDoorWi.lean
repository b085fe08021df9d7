/-
  The walk of StmtParts: a block is its statements, one behind the other, each as it is by itself.
-/
import Derived.Test.YtnnbdidefgghjaaGreatDoorK45
import Derived.Test.YtnnbdidefgghjaaGreatDoorK43
import Derived.Test.YtnnbdidefgghjaaGreatDoorK38
import Derived.Test.YtnnbdidefgghjaaGreatDoorK46
import Derived.IntWalk
namespace Go.Proofs.YtnnbdidefgghjaaGreatDoor
open Go.RowKit
open Px (RT tokAt)
open Pe
open Ps (Sm PX)

theorem ss_one {w : World} {bl o : Nat} {x : Sm} {vs : List Value} (hb : bl < w.heap.size) (hi : SIs w 0 x vs) (hc : ∀ (i : Nat) (v : Value), vs[i]? = some v → w.cell? ⟨bl, o + i, none⟩ = some v) : SsAt w 0 (some ⟨bl, o, none⟩) [x] :=
  .inr ⟨bl, o, rfl, hb, Nat.zero_le _, by rw [SAt, SAt]; exact ⟨⟨vs, hi, hc⟩, trivial⟩⟩
theorem slice_one (bl off n c j : Nat) (hj : j < n) (w' : World) : (Instr.slice 31 (.slice (some ⟨bl, off, none⟩) n (n + c)) (some (.int .i64 (j : Int))) (some (.int .i64 ((j : Int) + 1))) none).run Tryz.prog w' = .ok (.slice (some ⟨bl, off + j * 9, none⟩) 1 (n + c - j)) w' := by
  have e1 : ((j : Int) + 1).toNat = j + 1 := by omega
  have e2 : ¬ n + c = j := by omega
  have e3 : (⟨bl, off, none⟩ : Addr).add (j * 9) = ⟨bl, off + j * 9, none⟩ := by unfold Addr.add; split <;> simp_all
  rw [run_slice_lh w' 31 _ _ _ (by kernel_rfl) .i64 .i64 (j : Int) ((j : Int) + 1) (by omega) (by omega) (by omega)]
  rw [show Tryz.prog.elem 31 = 38 by kernel_rfl]
  rw [Tryz.sizeOf38]
  simp [sliced, Result.andThen, e1, e2, e3]
set_option maxRecDepth 8000 in
set_option maxHeartbeats 16000000 in
theorem stmtParts_walk (s : ByteArray) (hs : s.size ≤ maxLen) (w : World) (hops : OpsIn w) :
    Calls Tryz.prog 5 #[.string s] w fun e w' => e = .returned (.bool true) ∧ Below w.heap.size w w' := by
  obtain ⟨us, E, K, htk⟩ : ∃ us E K, Ln.Lx.toks s.data.toList = (us, E, K) := ⟨_, _, _, rfl⟩
  have hlen : us.length ≤ 6001 := by have := Ln.Lx.toks_len s.data.toList; rw [htk] at this; exact this
  have hsh : ∀ t ∈ us, t.text.length ≤ 281474976710656 := by have := toks_text s.data.toList; rw [htk] at this; exact this
  have HTK := Lib.hid (tokens_are s hs us E K htk w)
  have hll : (us.map toRT).length ≤ 6001 := by rw [List.length_map]; exact hlen
  have hP := isP_of (ts := us.map toRT) (by omega)
  have hPO := pok_of (ts := us.map toRT) (by omega) hP
  obtain ⟨⟨la, ea, EA, FA⟩, -, hqa⟩ := Sim.block_same (ts := us.map toRT) (by omega) hP 0 0
  have hfa := Sim.fit_parseB (by omega) hqa
  have hen : Sim.enough (us.map toRT) ≤ 1000000000 := by unfold Sim.enough; omega
  have HQA := Lib.hid (fun w1 R0 S (h : Toks w1 R0 S (us.map toRT)) => qBlock_entry w1 R0 S (us.map toRT) _ (qx_ok _ _ hen) 0 0 h _ hen _ hqa)
  have hln : EA = 0 → ∃ k, Sim.Line (us.map toRT) (pxOf (us.map toRT)) 1 la k ∧ ea = k + 1 := fun h0 => by subst h0; exact Sim.parts (by omega) hP hqa
  have HST := Lib.hid (fun w1 R0 S k x (h : Toks w1 R0 S (us.map toRT)) (ho : OpsIn w1) hx => stParse_any w1 R0 S (us.map toRT) _ hPO k 1 h ho _ hen x hx)
  dsimp only at HQA hfa
  have HFA := Lib.hid hfa
  have HLN := Lib.hid hln
  have HSH := Lib.hid hsh
  have HLL := Lib.hid hll
  have HOP := Lib.hid hops
  clear htk hlen hsh hll hqa hfa hen hops hs hP hPO hln
  by_cases h1 : 2000 < s.size
  · go_enter Tryz.func5, Tryz.ntmps5
    go_wp2_with fail
    refine HTK.out.mono ?_
    rintro e w1 ⟨A, c, rfl, hl1, hb1⟩
    clear hl1
    go_wp2_with fail
    go_ret
    exact ⟨rfl, bl_alloc hb1⟩
  have h1' : s.size ≤ 2000 := by omega
  clear h1
  by_cases hE : E = 0
  rotate_left
  · have hE2 : ((E : Int) != 0) = true := by rw [bne_iff_ne]; omega
    have hE3 : (E != 0) = true := by rw [bne_iff_ne]; exact hE
    clear hE
    go_enter Tryz.func5, Tryz.ntmps5
    go_wp2_with fail
    refine HTK.out.mono ?_
    rintro e w1 ⟨A, c, rfl, hl1, hb1⟩
    clear hl1
    go_wp2_with fail
    go_ret
    exact ⟨rfl, bl_alloc hb1⟩
  subst hE
  go_enter Tryz.func5, Tryz.ntmps5
  go_wp2_with fail
  refine HTK.out.mono ?_
  rintro e ua ⟨A, ca, rfl, hl1, hb1⟩
  obtain ⟨va, hva⟩ : ∃ va, va = ua.alloc (.cells #[.int .i64 ((0 : Nat) : Int), .int .i64 ((K : Nat) : Int)] 25) := ⟨_, rfl⟩
  have hbv : Below ua.heap.size ua va := by rw [hva]; exact bl_alloc (Below.refl _ _)
  have HT1 := Lib.hid (((toks_of (c := ca) hl1 HSH.out).below hbv).re (Nat.le_refl _))
  have HB1 := Lib.hid (below_seq hb1 hbv hb1.size)
  clear hl1 hb1 hbv HTK
  rw [show ((0 : Nat) : Int) = 0 from rfl] at hva
  go_wp2_with fail
  rw [← hva]
  clear hva
  refine (HQA.out _ _ _ HT1.out).mono ?_
  rintro e uc ⟨p, c, rfl, hla, hb⟩
  obtain ⟨vc, hvc⟩ : ∃ vc, vc = uc.alloc (.cells #[.int .i64 EA, .int .i64 FA] 25) := ⟨_, rfl⟩
  have hbv : Below uc.heap.size uc vc := by rw [hvc]; exact bl_alloc (Below.refl _ _)
  have hab := below_seq hb hbv hb.size
  have HLA := Lib.hid ((hla.below hbv).lower (Nat.zero_le _))
  have HT2 := Lib.hid (HT1.out.below hab)
  have HB2 := Lib.hid (below_seq HB1.out hab HB1.out.size)
  have HKN := Lib.hid (fun w1 (hb : Below vc.heap.size vc w1) => known4_any w1 (ops_below HOP.out (below_seq HB2.out hb HB2.out.size)))
  clear hla hb hbv hab HQA HT1 HB1
  by_cases hEA : EA = 0
  rotate_left
  · have hE2 : (EA != 0) = true := by simpa using hEA
    clear hEA HLN
    go_wp2_with fail
    rw [← hvc]
    refine (HKN.out _ (Below.refl _ _)).mono ?_
    rintro e w3 ⟨rfl, hb3⟩
    go_wp2_with fail
    go_ret
    exact ⟨rfl, below_seq HB2.out hb3 HB2.out.size⟩
  obtain ⟨kend, hline, hea⟩ := HLN.out hEA
  have HL0 := Lib.hid hline
  have HEA := Lib.hid hea
  subst hEA
  clear HLN hline hea
  go_wp2_with fail
  rw [← hvc]
  clear hvc
  go_loopg [8, 9] la.length (fun m av iv wr => ∃ (j : Nat) (k : Int), m + j = la.length ∧ av = .int .i64 k ∧ iv = .int .i64 (j : Int) ∧ Sim.Line (us.map toRT) (pxOf (us.map toRT)) k (la.drop j) kend ∧ 1 ≤ k ∧ k ≤ 6001 ∧ Below vc.heap.size vc wr)
  case atStart => exact ⟨0, 1, rfl, rfl, rfl, HL0.out, by decide, by decide, Below.refl _ _⟩
  case round =>
    obtain ⟨j, k, hj, rfl, rfl, hline, hk1, hk2, hb⟩ := hrel
    have HBE := Lib.hid hb
    have HJ := Lib.hid hj
    have HLI := Lib.hid hline
    have HK1 := Lib.hid hk1
    have HK2 := Lib.hid hk2
    clear hb hj hline hk1 hk2 HL0
    cases gk with
    | zero =>
      obtain rfl : j = la.length := by have := HJ.out; omega
      have hd1 : decide ((la.length : Int) < (la.length : Int)) = false := decide_eq_false (by omega)
      have hke : kend = k := by have h := HLI.out; rw [List.drop_of_length_le (Nat.le_refl _)] at h; exact h
      have hw : wrap64 (k + 1) = k + 1 := by have := HK1.out; have := HK2.out; simp [wrap64]; omega
      have hea : ea = k + 1 := by rw [HEA.out, hke]
      subst hea
      clear hke
      go_wp2_with fail
      refine (HKN.out _ HBE.out).mono ?_
      rintro e w3 ⟨rfl, hb3⟩
      go_wp2_with fail
      go_ret
      exact ⟨by simp, below_seq HB2.out (below_seq HBE.out hb3 HBE.out.size) HB2.out.size⟩
    | succ m =>
      have hjl : j < la.length := by have := HJ.out; omega
      have hd1 : decide ((j : Int) < (la.length : Int)) = true := decide_eq_true (by omega)
      have hi1 : (j : Int) < (la.length : Int) := by omega
      have he1 := List.getElem?_eq_getElem hjl
      have hd4 : la.drop j = la[j] :: la.drop (j + 1) := List.drop_eq_getElem_cons hjl
      have hf1 := fitML_mem HFA.out.1 (List.getElem_mem hjl)
      generalize la[j] = x at he1 hd4 hf1
      have hline := HLI.out
      rw [hd4] at hline
      obtain ⟨k2, hpx, hlt, hle, hrest⟩ := hline
      have HX := Lib.hid (fun w1 (hb : Below vc.heap.size vc w1) => HST.out w1 _ _ k _ (HT2.out.below hb) (ops_below HOP.out (below_seq HB2.out hb HB2.out.size)) hpx)
      dsimp only at HX
      have HLT := Lib.hid hlt
      have HLE := Lib.hid hle
      have HRE := Lib.hid hrest
      have HE1 := Lib.hid he1
      have HF1 := Lib.hid hf1
      clear he1 hd4 hf1 hpx hle hrest HLI
      go_wp2_with fail
      refine (HX.out _ HBE.out).mono ?_
      rintro e ue ⟨sk, sn, so, sd, sep, sel, sec, sbp, sbl, sbc, slp, sll, slc, sa, sr, rfl, hi, hb⟩
      obtain ⟨ve, hve⟩ : ∃ ve, ve = (ue.alloc (.cells #[.int .i64 sk, .string (cbs sn), .string (cbs so), .int .i64 sd, .slice sep sel sec, .slice sbp sbl sbc, .slice slp sll slc, .int .i64 sa, .int .i64 sr] 38)).alloc (.cells #[.int .i64 0, .int .i64 0] 25) := ⟨_, rfl⟩
      have hb2 : Below ue.heap.size ue ve := by rw [hve]; exact bl_alloc (bl_alloc (Below.refl _ _))
      have HK1a : Hid (ve.heap[ue.heap.size]? = some (.cells #[.int .i64 sk, .string (cbs sn), .string (cbs so), .int .i64 sd, .slice sep sel sec, .slice sbp sbl sbc, .slice slp sll slc, .int .i64 sa, .int .i64 sr] 38 (0, 0))) := Lib.hid (by rw [hve]; exact alloc_box _ (heap_alloc_new ue _))
      have HK1b : Hid (ve.heap[ue.heap.size + 1]? = some (.cells #[.int .i64 0, .int .i64 0] 25 (0, 0))) := Lib.hid (by rw [hve]; have := heap_alloc_new (ue.alloc (.cells #[.int .i64 sk, .string (cbs sn), .string (cbs so), .int .i64 sd, .slice sep sel sec, .slice sbp sbl sbc, .slice slp sll slc, .int .i64 sa, .int .i64 sr] 38)) (.cells #[.int .i64 0, .int .i64 0] 25); rw [size_alloc] at this; exact this)
      have HIX := Lib.hid (SIs.lower (Nat.zero_le _) _ (SIs.below hi hb2))
      have HBV := Lib.hid (below_seq (below_seq HBE.out hb HBE.out.size) hb2 (below_seq HBE.out hb HBE.out.size).size)
      clear hi hb hb2 HX
      obtain ⟨bl, off, vs, hpp, hbl, hi', hc⟩ := (HLA.out.below HBV.out).get HE1.out
      subst hpp
      have hrow := heap_alloc_new ve.drew (.cells #[.int .i64 sk, .string (cbs sn), .string (cbs so), .int .i64 sd, .slice sep sel sec, .slice sbp sbl sbc, .slice slp sll slc, .int .i64 sa, .int .i64 sr] 38)
      have HAL : Hid (Calls Tryz.prog 12 #[.slice (some ⟨ve.heap.size, 0, none⟩) 1 1, .slice (some ⟨bl, off + j * 9, none⟩) 1 (la.length + c - j)] (ve.drew.alloc (.cells #[.int .i64 sk, .string (cbs sn), .string (cbs so), .int .i64 sd, .slice sep sel sec, .slice sbp sbl sbc, .slice slp sll slc, .int .i64 sa, .int .i64 sr] 38)) (fun en w' => en = .returned (.bool true) ∧ Below (ve.drew.alloc (.cells #[.int .i64 sk, .string (cbs sn), .string (cbs so), .int .i64 sd, .slice sep sel sec, .slice sbp sbl sbc, .slice slp sll slc, .int .i64 sa, .int .i64 sr] 38)).heap.size (ve.drew.alloc (.cells #[.int .i64 sk, .string (cbs sn), .string (cbs so), .int .i64 sd, .slice sep sel sec, .slice sbp sbl sbc, .slice slp sll slc, .int .i64 sa, .int .i64 sr] 38)) w')) := by
        have hbd : Below ve.heap.size ve (ve.drew.alloc (.cells #[.int .i64 sk, .string (cbs sn), .string (cbs so), .int .i64 sd, .slice sep sel sec, .slice sbp sbl sbc, .slice slp sll slc, .int .i64 sa, .int .i64 sr] 38)) := bl_alloc (Below.refl _ _).drew
        exact Lib.hid (alike_any _ [x] _ _ 1 (la.length + c - j) (ss_one (o := 0) (heap_lt' hrow) (SIs.below HIX.out hbd) (fun i v hv => (cell_of_row _ _ _ _ _ _ hrow).trans (by rw [Nat.zero_add]; simpa [smCells] using hv))) (ss_one (Nat.lt_of_lt_of_le hbl hbd.size) (SIs.below hi' hbd) (fun i v hv => (hbd.cell (p := ⟨bl, off + j * 9 + i, none⟩) hbl).trans (hc i v hv))) (by rw [fitML, HF1.out, fitML]; rfl) (by show 1 ≤ _; decide))
      clear hi' hc hrow
      obtain ⟨⟨a0, a1, a2, a3, a4, a5, a6, a7, a8⟩, -⟩ := nen HK1a.out
      obtain ⟨⟨f0, f1⟩, -, lf⟩ := duo HK1b.out
      have la1 := heap_lt' HK1a.out
      have HGO := Lib.hid (show ∀ w' : World, Below ve.heap.size ve w' → (w'.cell? ⟨ue.heap.size, 0, none⟩ = some (.int .i64 sk) ∧ w'.cell? ⟨ue.heap.size, 1, none⟩ = some (.string (cbs sn)) ∧ w'.cell? ⟨ue.heap.size, 2, none⟩ = some (.string (cbs so)) ∧ w'.cell? ⟨ue.heap.size, 3, none⟩ = some (.int .i64 sd) ∧ w'.cell? ⟨ue.heap.size, 4, none⟩ = some (.slice sep sel sec) ∧ w'.cell? ⟨ue.heap.size, 5, none⟩ = some (.slice sbp sbl sbc) ∧ w'.cell? ⟨ue.heap.size, 6, none⟩ = some (.slice slp sll slc) ∧ w'.cell? ⟨ue.heap.size, 7, none⟩ = some (.int .i64 sa) ∧ w'.cell? ⟨ue.heap.size, 8, none⟩ = some (.int .i64 sr) ∧ w'.cell? ⟨ue.heap.size + 1, 0, none⟩ = some (.int .i64 0)) from fun w' hb => ⟨(hb.cell (p := ⟨ue.heap.size, 0, none⟩) la1).trans a0, (hb.cell (p := ⟨ue.heap.size, 1, none⟩) la1).trans a1, (hb.cell (p := ⟨ue.heap.size, 2, none⟩) la1).trans a2, (hb.cell (p := ⟨ue.heap.size, 3, none⟩) la1).trans a3, (hb.cell (p := ⟨ue.heap.size, 4, none⟩) la1).trans a4, (hb.cell (p := ⟨ue.heap.size, 5, none⟩) la1).trans a5, (hb.cell (p := ⟨ue.heap.size, 6, none⟩) la1).trans a6, (hb.cell (p := ⟨ue.heap.size, 7, none⟩) la1).trans a7, (hb.cell (p := ⟨ue.heap.size, 8, none⟩) la1).trans a8, (hb.cell (p := ⟨ue.heap.size + 1, 0, none⟩) lf).trans f0⟩)
      have HB0 : Hid (Below ve.heap.size ve ve.drew) := (Below.refl _ _).drew
      have hd5 : decide (k2 ≤ k) = false := decide_eq_false (by omega)
      have hi3 : (0 : Int) ≤ (j : Int) := by omega
      have hdw : wrap64 ((j : Int) + 1) = ((j + 1 : Nat) : Int) := by have := HFA.out.2; simp [wrap64]; omega
      have hsl := fun w' => slice_one bl off la.length c j hjl w'
      have hsl2 : ∀ w', (Instr.slice 31 (.slice (some ⟨bl, off, none⟩) la.length (la.length + c)) (some (.int .i64 (j : Int))) (some (.int .i64 ((j + 1 : Nat) : Int))) none).run Tryz.prog w' = .ok (.slice (some ⟨bl, off + j * 9, none⟩) 1 (la.length + c - j)) w' := fun w' => slice_one bl off la.length c j hjl w'
      have hs2a : (j : Int) + 1 ≤ (la.length : Int) + (c : Int) := by omega
      have hs2b : ((j + 1 : Nat) : Int) ≤ ((la.length + c : Nat) : Int) := by omega
      have hs2c : j + 1 ≤ la.length + c := by omega
      have hs2d : (j : Int) ≤ (j : Int) + 1 := by omega
      have hs2e : ¬ la.length + c = j := by omega
      have hs2f : ((j : Int) + 1).toNat = j + 1 := by omega
      have hs2g : (⟨bl, off, none⟩ : Addr).add (j * 9) = ⟨bl, off + j * 9, none⟩ := by unfold Addr.add; split <;> simp_all
      have hs2h : (j : Int) + 1 ≤ ((la.length + c : Nat) : Int) := by omega
      have hs2j : IntKind.i64.wrap ((j : Int) + 1) = (j : Int) + 1 := IntWalk.i64_in _ (by have := HFA.out.2; omega)
      have hsl3 : ∀ w', (Instr.sliceAt 31 (.slice (some ⟨bl, off, none⟩) la.length (la.length + c)) (some (.int .i64 (j : Int))) (some (.int .i64 ((j : Int) + 1))) none).run Tryz.prog w' = .ok (.slice (some ⟨bl, off + j * 9, none⟩) 1 (la.length + c - j)) w' := fun w' => by rw [run_sliceAt_slice _ 31 _ _ _ _ (by kernel_rfl)]; exact slice_one bl off la.length c j hjl w'
      have hsl4 : ∀ w', (Instr.sliceAt 31 (.slice (some ⟨bl, off, none⟩) la.length (la.length + c)) (some (.int .i64 (j : Int))) (some (.int .i64 ((j + 1 : Nat) : Int))) none).run Tryz.prog w' = .ok (.slice (some ⟨bl, off + j * 9, none⟩) 1 (la.length + c - j)) w' := hsl3
      go_wp2_with fail
      rw [← hve]
      clear hve
      go_region_held3 (fun w' => w'.cell? ⟨ue.heap.size, 0, none⟩ = some (.int .i64 sk) ∧ w'.cell? ⟨ue.heap.size, 1, none⟩ = some (.string (cbs sn)) ∧ w'.cell? ⟨ue.heap.size, 2, none⟩ = some (.string (cbs so)) ∧ w'.cell? ⟨ue.heap.size, 3, none⟩ = some (.int .i64 sd) ∧ w'.cell? ⟨ue.heap.size, 4, none⟩ = some (.slice sep sel sec) ∧ w'.cell? ⟨ue.heap.size, 5, none⟩ = some (.slice sbp sbl sbc) ∧ w'.cell? ⟨ue.heap.size, 6, none⟩ = some (.slice slp sll slc) ∧ w'.cell? ⟨ue.heap.size, 7, none⟩ = some (.int .i64 sa) ∧ w'.cell? ⟨ue.heap.size, 8, none⟩ = some (.int .i64 sr) ∧ w'.cell? ⟨ue.heap.size + 1, 0, none⟩ = some (.int .i64 0)) (first | exact HGO.out _ HB0.out | exact HGO.out _ (bl_alloc HB0.out) | exact HGO.out _ HB1.out) (first
        | (go_at_call 12; (refine Calls.mono HAL.out ?_); rintro e z1 ⟨rfl, hb⟩; have HB1 := Lib.hid (below_seq (bl_alloc HB0.out) hb (bl_alloc HB0.out).size); clear hb))
      go_wp2_with fail
      go_roundg m
      case measure => omega
      case rel => exact ⟨j + 1, k2, by have := HJ.out; omega, rfl, by first | rfl | simp [hdw], HRE.out, by have := HK1.out; have := HLT.out; omega, by have := HLE.out; have := HLL.out; omega, below_seq HBV.out HB1.out HBV.out.size⟩
end Go.Proofs.YtnnbdidefgghjaaGreatDoor
