/-
  The contracts of the answer's reader (runrigref3) over the plain machine: the binary signs of one level.
-/
import Derived.Test.YtnadaedibicaaaaDoorQk
import Derived.Test.YtnadaedibicaaaaDoorQz
namespace Go.Proofs.YtnadaedibicaaaaDoor
open Go.RowKit
open Px (RT tokAt isT)
open Pe (inc dec Ex)
open Qe (Q)

theorem IsOff.of2 {g : Nat → Prop} {w : World} {B B2 : Nat} {e : Ex} {vs : List Value} (h : Is w B2 e vs) (hB : B ≤ B2) (hg : ∀ k, g k → k < B2 ∨ w.heap.size ≤ k) : IsOff g w B e vs :=
  fun w' hs hk => Is.lower hB _ (Is.keep hs (fun bl h1 h2 => hk bl (Nat.le_trans hB h1) h2 (fun e => by rcases hg _ e with h | h <;> omega)) _ h)
theorem qbin_zero {ts : List RT} {rec : Nat → Q → Qe.Out} {n : Nat} {e : Ex} {s : Q} {x : Ex × Q} (h : Qe.binLoop ts rec n 0 e s = some x) : False := by
  rw [Qe.binLoop] at h; cases h
theorem qbin_no {ts : List RT} {rec : Nat → Q → Qe.Out} {n g : Nat} {e : Ex} {s : Q} {x : Ex × Q} (h : Qe.binLoop ts rec n (g + 1) e s = some x) (hv : Qe.sign ts s n = 0) : x = (e, s) := by
  rw [Qe.binLoop, if_pos hv] at h
  simpa using h.symm
theorem qbin_yes {ts : List RT} {rec : Nat → Q → Qe.Out} {n g : Nat} {e : Ex} {s : Q} {x : Ex × Q} (h : Qe.binLoop ts rec n (g + 1) e s = some x) (hv : ¬ Qe.sign ts s n = 0) : ∃ r s2, rec (n + 1) (Qe.next s) = some (r, s2) ∧ Qe.binLoop ts rec n g (Ex.of (Qe.sign ts s n) 0 [] [] 0 [e, r] (tokAt ts s.k).at_) s2 = some x := by
  rw [Qe.binLoop, if_neg hv] at h
  split at h
  · cases h
  · rename_i r s2 he
    exact ⟨r, s2, he, h⟩

set_option maxRecDepth 8000 in
set_option maxHeartbeats 4000000 in
theorem qExpr_low (w : World) (R : Nat) (S : Value) (ts : List RT) (s : Q) (h : Qr w R S ts s) (rec : Nat → Q → Qe.Out) (hrec : QRecOk ts rec) (n : Nat) (hn : n < 5) (gg : Nat) (e0 : Ex) (s1 : Q) (he : rec (n + 1) s = some (e0, s1)) (x : Ex × Q) (hx : Qe.binLoop ts rec n gg e0 s1 = some x) :
    Calls Tryd.prog 38 #[.pointer (some ⟨R, 0, none⟩), .int .i64 (n : Int)] w (QPost w.heap.size w R S ts x) := by
  have HX := Lib.hid hx
  have HREC := Lib.hid (fun (s2 : Q) (y : Ex × Q) (hy : rec (n + 1) s2 = some y) w1 hh => hrec (n + 1) s2 y (by omega) hy w1 R S hh)
  have HE := Lib.hid he
  have HRB := Lib.hid h.lt
  have hlt := h.lt
  have HH := Lib.hid h
  have F := Lib.hid ((Fq.start h).alloc (.cells #[.int .i64 0, .int .i64 0, .string ⟨#[]⟩, .string ⟨#[]⟩, .int .i64 0, .slice none 0 0, .int .i64 0, .int .i64 0, .int .i64 0, .int .i64 0, .int .i64 0] 39))
  have hd5 : ((n : Int) == 5) = false := by simp; omega
  have hd5b : (n == 5) = false := by simp; omega
  have hdw : wrap64 ((n : Int) + 1) = ((n + 1 : Nat) : Int) := by simp [wrap64]; omega
  have HLV := Lib.hid (fun w1 t => qLevel_any w1 n hn t)
  clear h hx hrec he
  go_enter Tryd.func38, Tryd.ntmps38
  go_wp2_with fail
  have HNZ0 := heap_lt' (F.out.keep _ (List.Mem.head _)).1
  refine (HREC.out _ _ HE.out _ F.out.qr).mono ?_
  rintro e wl1 ⟨qk, qn, qs, qo, qd, qp, ql, qc, qa, qb, qr, qe, qf, rfl, hi, hr, hg⟩
  have HN1 : Hid (w.heap.size < wl1.heap.size) := Nat.lt_of_lt_of_le HNZ0 hg.size
  have F2 := (F.out.step hr hg).alloc (.cells #[.int .i64 qk, .int .i64 qn, .string (cbs qs), .string (cbs qo), .int .i64 qd, .slice qp ql qc, .int .i64 qa, .int .i64 qb, .int .i64 qr, .int .i64 qe, .int .i64 qf] 39)
  have HO := Lib.hid (show Hoq w (wl1.alloc (.cells #[.int .i64 qk, .int .i64 qn, .string (cbs qs), .string (cbs qo), .int .i64 qd, .slice qp ql qc, .int .i64 qa, .int .i64 qb, .int .i64 qr, .int .i64 qe, .int .i64 qf] 39)) R S ts w.heap.size wl1.heap.size w.heap.size qk qn qs qo qd qp ql qc qa qb qr qe qf e0 s1 from ⟨F2.sub (fun p hp => hp), (IsOff.of2 hi (Nat.le_of_lt HNZ0) (fun k hk => by rcases hk with rfl | rfl <;> omega)).alloc _⟩)
  clear hi hr hg F F2 HE HNZ0
  go_wp2_with fail
  go_loopg [] gg (fun m wr => ∃ e s4 kind num name ofn dims p ln c at_ b r d ref, Hoq w wr R S ts w.heap.size wl1.heap.size w.heap.size kind num name ofn dims p ln c at_ b r d ref e s4 ∧ Qe.binLoop ts rec n m e s4 = some x)
  case atStart => exact ⟨_, _, _, _, _, _, _, _, _, _, _, _, _, _, _, HO.out, HX.out⟩
  case round =>
    obtain ⟨e, s4, kind, num, name, ofn, dims, p, ln, c, at_, b, r, d, ref, ho, hx⟩ := hrel
    have F := Lib.hid ho.f
    have I := Lib.hid ho.is
    have HX1 := Lib.hid hx
    clear ho hx HO HX
    cases gk with
    | zero => exact (qbin_zero HX1.out).elim
    | succ m =>
      have htk := fun w1 hh => qTok_any w1 R S ts s4 hh
      have hok := fun w1 hh => qOk_any w1 R S ts s4 hh
      generalize hgt : tokAt ts s4.k = t at htk
      have HGT := Lib.hid hgt
      unfold tokW at htk HLV
      have HTK := Lib.hid htk
      have HOK := Lib.hid hok
      clear htk hok hgt
      have HLV2 := Lib.hid (fun w1 => HLV.out w1 t)
      by_cases hE : (s4.E == 0) = true
      · by_cases hl : Px.levelT n t = 0
        · have hsg : Qe.sign ts s4 n = 0 := by unfold Qe.sign; rw [if_pos (by simpa using hE), HGT.out]; exact hl
          have hx := qbin_no HX1.out hsg
          subst hx
          clear hsg
          rw [hE] at HOK
          go_wp2_with fail
          refine (HOK.out _ F.out.qr).mono ?_
          rintro e wl2 ⟨rfl, rfl⟩
          go_wp2_with fail
          refine (HTK.out _ F.out.qr).mono ?_
          rintro e' wl3 ⟨rfl, hb⟩
          have F2 := Lib.hid (F.out.go hb)
          clear F
          have F := F2
          clear F2
          have I2 := Lib.hid (I.out.below hb)
          clear I
          have I := I2
          clear I2
          clear hb
          go_wp2_with fail
          refine (HLV.out _ t).mono ?_
          rintro e' wl4 ⟨rfl, hb⟩
          have F2 := Lib.hid (F.out.go hb)
          clear F
          have F := F2
          clear F2
          have I2 := Lib.hid (I.out.below hb)
          clear I
          have I := I2
          clear I2
          clear hb
          try rw [hl]
          have hk := (F.out.keep _ (List.Mem.head _))
          obtain ⟨⟨x0, x1, x2, x3, x4, x5, x6, x7, x8, x9, xX⟩, y0, y1, y2, y3, y4, y5, y6, y7, y8, y9, yX⟩ := hen hk.1
          have hlx := heap_lt' hk.1
          have hnx := hk.2
          clear hk
          have hmx := Ne.symm hnx
          have hk := (F.out.keep _ (List.Mem.tail _ (List.Mem.head _)))
          obtain ⟨⟨d0, d1, d2, d3, d4, d5, d6, d7, d8, d9, dX⟩, g0, g1, g2, g3, g4, g5, g6, g7, g8, g9, gX⟩ := hen hk.1
          have hld := heap_lt' hk.1
          have hnd := hk.2
          clear hk
          go_wp2_with fail
          have hn := (Nw.start F.out.gr).put11 (B := w.heap.size) (Nat.le_refl _) (c0 := .int .i64 kind) (c1 := .int .i64 num) (c2 := .string (cbs name)) (c3 := .string (cbs ofn)) (c4 := .int .i64 dims) (c5 := .slice p ln c) (c6 := .int .i64 at_) (c7 := .int .i64 b) (c8 := .int .i64 r) (c9 := .int .i64 d) (c10 := .int .i64 ref)
          exact bodyPost_ret (v := .agg #[.int .i64 kind, .int .i64 num, .string (cbs name), .string (cbs ofn), .int .i64 dims, .slice p ln c, .int .i64 at_, .int .i64 b, .int .i64 r, .int .i64 d, .int .i64 ref]) (by simp [results, Tryd.results38, go_sem, d0, d1, d2, d3, d4, d5, d6, d7, d8, d9, dX]) rfl ⟨_, _, _, _, _, _, _, _, _, _, _, _, _, rfl, (I.out.put11 (.inr rfl)).now, HH.out.fin F.out.qr hn, hn.gr⟩
        · have hsg : Qe.sign ts s4 n = Px.levelT n t := by unfold Qe.sign; rw [if_pos (by simpa using hE), HGT.out]
          obtain ⟨r0, s5, he, h5⟩ := qbin_yes HX1.out (by rw [hsg]; exact hl)
          rw [hsg, HGT.out] at h5
          have HE := Lib.hid he
          have H5 := Lib.hid h5
          have hlb : (Px.levelT n t != 0) = true := by simpa using hl
          have hlb2 : (Px.levelT n t == 0) = false := by simpa using hl
          generalize Px.levelT n t = LK at hl hlb hlb2 HLV2 H5
          clear he h5 hsg HX1
          rw [hE] at HOK
          go_wp2_with fail
          refine (HOK.out _ F.out.qr).mono ?_
          rintro e wl2 ⟨rfl, rfl⟩
          go_wp2_with fail
          refine (HTK.out _ F.out.qr).mono ?_
          rintro e' wl3 ⟨rfl, hb⟩
          have F2 := Lib.hid (F.out.go hb)
          clear F
          have F := F2
          clear F2
          have I2 := Lib.hid (I.out.below hb)
          clear I
          have I := I2
          clear I2
          clear hb
          go_wp2_with fail
          refine (HLV2.out _).mono ?_
          rintro e' wl4 ⟨rfl, hb⟩
          have F2 := Lib.hid (F.out.go hb)
          clear F
          have F := F2
          clear F2
          have I2 := Lib.hid (I.out.below hb)
          clear I
          have I := I2
          clear I2
          clear hb
          go_wp2_with fail
          refine (HTK.out _ F.out.qr).mono ?_
          rintro e' wl5 ⟨rfl, hb⟩
          have F2 := Lib.hid (F.out.go hb)
          clear F
          have F := F2
          clear F2
          have I2 := Lib.hid (I.out.below hb)
          clear I
          have I := I2
          clear I2
          clear hb
          have HNT := Lib.hid (Nat.ne_of_gt (heap_lt' (F.out.keep _ (List.Mem.head _)).1))
          obtain ⟨⟨c0, c1, c2, c3, c4⟩, fr, hRl⟩ := F.out.qr.cells
          have fr1 := fr 1
          have fr2 := fr 2
          clear fr
          skip
          go_wp2_with fail
          clear c0 c1 c2 c3 c4 fr1 fr2 hRl
          have F2 := Lib.hid (F.out.set_k (inc s4.k))
          change Hid (Fq _ _ _ _ _ (Qe.next s4) _ _) at F2
          clear F
          have F := F2
          clear F2
          have I2 := Lib.hid (I.out.gr HRB.out ((Gr.refl R _).set 1 (.int .i64 (inc s4.k))))
          clear I
          have I := I2
          clear I2
          obtain ⟨wn, hwn⟩ : ∃ wn, wn = wl5.setCell ⟨R, 1, none⟩ (.int .i64 (inc s4.k)) := ⟨_, rfl⟩
          rw [← hwn] at F I
          change Calls _ _ _ ((wl5.setCell ⟨R, 1, none⟩ (.int .i64 (inc s4.k))).alloc (.cells #[.int .i64 t.kind, .string (cbs t.text), .int .i64 t.num, .int .i64 t.at_] 51)) _
          rw [← hwn]
          have HWNS : Hid (wn.heap.size = wl5.heap.size) := by rw [hwn]; exact size_set _ _ _
          clear hwn
          have HT5 : Hid (wn.heap.size = wl5.heap.size) := HWNS
          have F2 := Lib.hid (F.out.alloc (.cells #[.int .i64 t.kind, .string (cbs t.text), .int .i64 t.num, .int .i64 t.at_] 51))
          clear F
          have F := F2
          clear F2
          have I2 := Lib.hid (I.out.alloc (.cells #[.int .i64 t.kind, .string (cbs t.text), .int .i64 t.num, .int .i64 t.at_] 51))
          clear I
          have I := I2
          clear I2
          have HNZ := Lib.hid (heap_lt' (F.out.keep _ (List.Mem.tail _ (List.Mem.tail _ (List.Mem.head _)))).1)
          have HNE := Lib.hid (heap_lt' (F.out.keep _ (List.Mem.tail _ (List.Mem.head _))).1)
          have hRB := F.out.qr.lt
          have hNB := heap_lt' (F.out.keep _ (List.Mem.tail _ (List.Mem.tail _ (List.Mem.head _)))).1
          refine (HREC.out _ _ HE.out _ F.out.qr).mono ?_
          rintro e' wl6 ⟨zk, zn, zs, zo, zd, zp, zl, zc, za, zb, zr, ze, zf, rfl, hi, hr, hg⟩
          have F2 := Lib.hid ((F.out.step hr hg).tree hi hNB hRB)
          clear F
          have F := F2
          clear F2
          have I2 := Lib.hid (I.out.gr HRB.out hg)
          clear I
          have I := I2
          clear I2
          clear hi hr hg hRB hNB
          go_wp2_with fail
          have HNI := Lib.hid (Nat.ne_of_gt (heap_lt' (F.out.keep _ (List.Mem.tail _ (List.Mem.head _))).1))
          have HNR := Lib.hid ((F.out.trees _ (List.Mem.head _)))
          have F2 := Lib.hid (F.out.alloc (.cells #[.int .i64 zk, .int .i64 zn, .string (cbs zs), .string (cbs zo), .int .i64 zd, .slice zp zl zc, .int .i64 za, .int .i64 zb, .int .i64 zr, .int .i64 ze, .int .i64 zf] 39))
          clear F
          have F := F2
          clear F2
          have I2 := Lib.hid (I.out.alloc (.cells #[.int .i64 zk, .int .i64 zn, .string (cbs zs), .string (cbs zo), .int .i64 zd, .slice zp zl zc, .int .i64 za, .int .i64 zb, .int .i64 zr, .int .i64 ze, .int .i64 zf] 39))
          clear I
          have I := I2
          clear I2
          have F2 := Lib.hid (F.out.go (Below.refl _ _).drew)
          clear F
          have F := F2
          clear F2
          have I2 := Lib.hid (I.out.below (Below.refl _ _).drew)
          clear I
          have I := I2
          clear I2
          have HS0 : Hid ((fun w' => w'.heap[wl5.heap.size]? = some (.cells #[.int .i64 t.kind, .string (cbs t.text), .int .i64 t.num, .int .i64 t.at_] 51 (0, 0)) ∧ w'.heap[wl1.heap.size]? = some (.cells #[.int .i64 kind, .int .i64 num, .string (cbs name), .string (cbs ofn), .int .i64 dims, .slice p ln c, .int .i64 at_, .int .i64 b, .int .i64 r, .int .i64 d, .int .i64 ref] 39 (0, 0)) ∧ w'.heap[wl6.heap.size]? = some (.cells #[.int .i64 zk, .int .i64 zn, .string (cbs zs), .string (cbs zo), .int .i64 zd, .slice zp zl zc, .int .i64 za, .int .i64 zb, .int .i64 zr, .int .i64 ze, .int .i64 zf] 39 (0, 0))) (wl6.alloc (.cells #[.int .i64 zk, .int .i64 zn, .string (cbs zs), .string (cbs zo), .int .i64 zd, .slice zp zl zc, .int .i64 za, .int .i64 zb, .int .i64 zr, .int .i64 ze, .int .i64 zf] 39)).drew) := ⟨HT5.out ▸ (F.out.keep _ (List.Mem.tail _ (List.Mem.head _))).1, (F.out.keep _ (List.Mem.tail _ (List.Mem.tail _ (List.Mem.head _)))).1, (F.out.keep _ (List.Mem.head _)).1⟩
          refine till_start (fun w' => w'.heap[wl5.heap.size]? = some (.cells #[.int .i64 t.kind, .string (cbs t.text), .int .i64 t.num, .int .i64 t.at_] 51 (0, 0)) ∧ w'.heap[wl1.heap.size]? = some (.cells #[.int .i64 kind, .int .i64 num, .string (cbs name), .string (cbs ofn), .int .i64 dims, .slice p ln c, .int .i64 at_, .int .i64 b, .int .i64 r, .int .i64 d, .int .i64 ref] 39 (0, 0)) ∧ w'.heap[wl6.heap.size]? = some (.cells #[.int .i64 zk, .int .i64 zn, .string (cbs zs), .string (cbs zo), .int .i64 zd, .slice zp zl zc, .int .i64 za, .int .i64 zb, .int .i64 zr, .int .i64 ze, .int .i64 zf] 39 (0, 0))) 9 (by kernel_rfl) ?_
          refine Till.takeAt (f := 9) (i := 0) (.int .i64 (n : Int)) 38 rfl rfl (by kernel_rfl) (by kernel_rfl) (by kernel_rfl) rfl (by kernel_rfl) (fun _ _ _ h => h) (Or.inl ⟨by rfl, fun w' hSw => ?_⟩) HS0.out ?_
          · skip
            go_simp
          try simp only [Act.put, List.setIfInBounds_toArray, List.set_cons_zero, List.set_cons_succ]
          refine Till.takeAt (f := 8) (i := 1) ((.agg #[.int .i64 t.kind, .string (cbs t.text), .int .i64 t.num, .int .i64 t.at_])) 39 rfl rfl (by kernel_rfl) (by kernel_rfl) (by kernel_rfl) rfl (by kernel_rfl) (fun _ _ _ h => h) (Or.inl ⟨by rfl, fun w' hSw => ?_⟩) HS0.out ?_
          · obtain ⟨⟨a0, a1, a2, a3⟩, -⟩ := quad hSw.1
            go_simp
          try simp only [Act.put, List.setIfInBounds_toArray, List.set_cons_zero, List.set_cons_succ]
          refine Till.takeAt (f := 7) (i := 6) (.pointer (some ⟨wl5.heap.size, 3, none⟩)) 44 rfl rfl (by kernel_rfl) (by kernel_rfl) (by kernel_rfl) rfl (by kernel_rfl) (fun _ _ _ h => h) (Or.inl ⟨by rfl, fun w' hSw => ?_⟩) HS0.out ?_
          · skip
            go_simp
          try simp only [Act.put, List.setIfInBounds_toArray, List.set_cons_zero, List.set_cons_succ]
          refine Till.takeAt (f := 6) (i := 7) (.int .i64 t.at_) 45 rfl rfl (by kernel_rfl) (by kernel_rfl) (by kernel_rfl) rfl (by kernel_rfl) (fun _ _ _ h => h) (Or.inl ⟨by rfl, fun w' hSw => ?_⟩) HS0.out ?_
          · obtain ⟨⟨a0, a1, a2, a3⟩, -⟩ := quad hSw.1
            go_simp
          try simp only [Act.put, List.setIfInBounds_toArray, List.set_cons_zero, List.set_cons_succ]
          refine Till.takeAt (f := 5) (i := 3) (.agg #[.int .i64 kind, .int .i64 num, .string (cbs name), .string (cbs ofn), .int .i64 dims, .slice p ln c, .int .i64 at_, .int .i64 b, .int .i64 r, .int .i64 d, .int .i64 ref]) 41 rfl rfl (by kernel_rfl) (by kernel_rfl) (by kernel_rfl) rfl (by kernel_rfl) (fun _ _ _ h => h) (Or.inl ⟨by rfl, fun w' hSw => ?_⟩) HS0.out ?_
          · obtain ⟨⟨a0, a1, a2, a3, a4, a5, a6, a7, a8, a9, aX⟩, -⟩ := hen hSw.2.1
            go_simp
          try simp only [Act.put, List.setIfInBounds_toArray, List.set_cons_zero, List.set_cons_succ]
          refine Till.takeAt (f := 4) (i := 4) (.agg #[.int .i64 zk, .int .i64 zn, .string (cbs zs), .string (cbs zo), .int .i64 zd, .slice zp zl zc, .int .i64 za, .int .i64 zb, .int .i64 zr, .int .i64 ze, .int .i64 zf]) 42 rfl rfl (by kernel_rfl) (by kernel_rfl) (by kernel_rfl) rfl (by kernel_rfl) (fun _ _ _ h => h) (Or.inl ⟨by rfl, fun w' hSw => ?_⟩) HS0.out ?_
          · obtain ⟨⟨a0, a1, a2, a3, a4, a5, a6, a7, a8, a9, aX⟩, -⟩ := hen hSw.2.2
            go_simp
          try simp only [Act.put, List.setIfInBounds_toArray, List.set_cons_zero, List.set_cons_succ]
          refine Till.two (f := 3) (i := 2) (j := 5) (by kernel_rfl) rfl rfl ?_ ?_
          · skip
            intro K hK
            rw [if_pos (by rfl)]
            go_simp
            refine (HLV2.out _).mono ?_
            rintro e' wk1 ⟨rfl, hb⟩
            have F2 := Lib.hid (F.out.go hb)
            clear F
            have F := F2
            clear F2
            have I2 := Lib.hid (I.out.below hb)
            clear I
            have I := I2
            clear I2
            clear hb
            try dsimp only
            refine hK.out _ _ ⟨.inr ⟨HT5.out ▸ (F.out.keep _ (List.Mem.tail _ (List.Mem.head _))).1, (F.out.keep _ (List.Mem.tail _ (List.Mem.tail _ (List.Mem.head _)))).1, (F.out.keep _ (List.Mem.head _)).1⟩, ?_⟩
            clear hK K
            try simp only [Act.put, List.setIfInBounds_toArray, List.set_cons_zero, List.set_cons_succ]
            refine Till.one (f := 2) (i := 5) (by kernel_rfl) rfl ?_
            intro K hK
            rw [if_pos (by rfl)]
            go_simp
            have HLT := Lib.hid (heap_lt' (F.out.keep _ (List.Mem.tail _ (List.Mem.tail _ (List.Mem.head _)))).1)
            have F2 := Lib.hid (F.out.alloc (.cells #[.int .i64 kind, .int .i64 num, .string (cbs name), .string (cbs ofn), .int .i64 dims, .slice p ln c, .int .i64 at_, .int .i64 b, .int .i64 r, .int .i64 d, .int .i64 ref, .int .i64 zk, .int .i64 zn, .string (cbs zs), .string (cbs zo), .int .i64 zd, .slice zp zl zc, .int .i64 za, .int .i64 zb, .int .i64 zr, .int .i64 ze, .int .i64 zf] 39))
            clear F
            have F := F2
            clear F2
            have I2 := Lib.hid (I.out.alloc (.cells #[.int .i64 kind, .int .i64 num, .string (cbs name), .string (cbs ofn), .int .i64 dims, .slice p ln c, .int .i64 at_, .int .i64 b, .int .i64 r, .int .i64 d, .int .i64 ref, .int .i64 zk, .int .i64 zn, .string (cbs zs), .string (cbs zo), .int .i64 zd, .slice zp zl zc, .int .i64 za, .int .i64 zb, .int .i64 zr, .int .i64 ze, .int .i64 zf] 39))
            clear I
            have I := I2
            clear I2
            refine hK.out _ _ ⟨.inr ⟨HT5.out ▸ (F.out.keep _ (List.Mem.tail _ (List.Mem.tail _ (List.Mem.head _)))).1, (F.out.keep _ (List.Mem.tail _ (List.Mem.tail _ (List.Mem.tail _ (List.Mem.head _))))).1, (F.out.keep _ (List.Mem.tail _ (List.Mem.head _))).1⟩, ?_⟩
            clear hK K
            try simp only [Act.put, List.setIfInBounds_toArray, List.set_cons_zero, List.set_cons_succ]
            obtain ⟨wk2, hwk2⟩ : ∃ wk2, wk2 = wk1.alloc (.cells #[.int .i64 kind, .int .i64 num, .string (cbs name), .string (cbs ofn), .int .i64 dims, .slice p ln c, .int .i64 at_, .int .i64 b, .int .i64 r, .int .i64 d, .int .i64 ref, .int .i64 zk, .int .i64 zn, .string (cbs zs), .string (cbs zo), .int .i64 zd, .slice zp zl zc, .int .i64 za, .int .i64 zb, .int .i64 zr, .int .i64 ze, .int .i64 zf] 39) := ⟨_, rfl⟩
            rw [← hwk2] at F I ⊢
            clear hwk2
            refine Till.one (f := 1) (i := 8) (by kernel_rfl) rfl ?_
            intro K hK
            rw [if_pos (by rfl)]
            go_simp
            refine hK.out _ _ ⟨.inr ⟨HT5.out ▸ (F.out.keep _ (List.Mem.tail _ (List.Mem.tail _ (List.Mem.head _)))).1, (F.out.keep _ (List.Mem.tail _ (List.Mem.tail _ (List.Mem.tail _ (List.Mem.head _))))).1, (F.out.keep _ (List.Mem.tail _ (List.Mem.head _))).1⟩, ?_⟩
            clear hK K
            try simp only [Act.put, List.setIfInBounds_toArray, List.set_cons_zero, List.set_cons_succ]
            have hk := (F.out.keep _ (List.Mem.tail _ (List.Mem.tail _ (List.Mem.tail _ (List.Mem.head _)))))
            obtain ⟨⟨x0, x1, x2, x3, x4, x5, x6, x7, x8, x9, xX⟩, y0, y1, y2, y3, y4, y5, y6, y7, y8, y9, yX⟩ := hen hk.1
            have hlx := heap_lt' hk.1
            have hnx := hk.2
            clear hk
            have hmx := Ne.symm hnx
            refine Till.one (f := 0) (i := 9) (by kernel_rfl) rfl ?_
            intro K hK
            rw [if_pos (by rfl)]
            go_simp
            refine hK.out _ _ ⟨.inl rfl, ?_⟩
            clear hK K
            try simp only [Act.put, List.setIfInBounds_toArray, List.set_cons_zero, List.set_cons_succ]
            refine Till.done (by kernel_rfl) ?_ _
            go_wp2_with fail
            go_roundg m
            case measure => omega
            case rel =>
              have hz3 : w.heap.size < wl1.heap.size := HN1.out
              have hz4 : wl1.heap.size < wk1.heap.size := HLT.out
              have hbx := put11_other (N := wl1.heap.size) (F.out.keep _ (List.Mem.head _)).1 (Nat.ne_of_gt hz4) (c0 := .int .i64 LK) (c1 := .int .i64 0) (c2 := .string ⟨#[]⟩) (c3 := .string ⟨#[]⟩) (c4 := .int .i64 0) (c5 := .slice (some ⟨wk1.heap.size, 0, none⟩) 2 2) (c6 := .int .i64 t.at_) (c7 := .int .i64 0) (c8 := .int .i64 0) (c9 := .int .i64 0) (c10 := .int .i64 0)
              have htr := (F.out.trees _ (List.Mem.head _))
              dsimp only at hbx htr
              exact ⟨_, s5, _, _, _, _, _, _, _, _, _, _, _, _, _, ⟨F.out.write HH.out (List.Mem.tail _ (List.Mem.tail _ (List.Mem.tail _ (List.Mem.head _)))) (List.Mem.tail _ (List.Mem.tail _ (List.Mem.tail _ (List.Mem.tail _ (List.Mem.head _))))) (Nat.le_of_lt HN1.out) (Nat.ne_of_lt HN1.out) (c0 := .int .i64 LK) (c1 := .int .i64 0) (c2 := .string ⟨#[]⟩) (c3 := .string ⟨#[]⟩) (c4 := .int .i64 0) (c5 := .slice (some ⟨wk1.heap.size, 0, none⟩) 2 2) (c6 := .int .i64 t.at_) (c7 := .int .i64 0) (c8 := .int .i64 0) (c9 := .int .i64 0) (c10 := .int .i64 0), IsOff.node2 hbx (by omega) (fun hh => by rcases hh with hh | hh <;> omega) (I.out.put11 (.inl rfl)) (IsOff.of (htr.1.put11 (N := wl1.heap.size) HNE.out) (Nat.le_of_lt htr.2.1) (fun q hq => hq.elim (fun e => by rw [e]; exact HNE.out) (fun e => by rw [e]; exact htr.2.1))) rfl LK 0 [] [] 0 t.at_ 2⟩, H5.out⟩
          · skip
            intro K hK
            rw [if_pos (by rfl)]
            go_simp
            have HLT := Lib.hid (heap_lt' (F.out.keep _ (List.Mem.tail _ (List.Mem.tail _ (List.Mem.head _)))).1)
            have HSZ : Hid ((wl6.alloc (.cells #[.int .i64 zk, .int .i64 zn, .string (cbs zs), .string (cbs zo), .int .i64 zd, .slice zp zl zc, .int .i64 za, .int .i64 zb, .int .i64 zr, .int .i64 ze, .int .i64 zf] 39)).drew.heap.size = wl6.heap.size + 1) := size_alloc _ _
            have F2 := Lib.hid (F.out.alloc (.cells #[.int .i64 kind, .int .i64 num, .string (cbs name), .string (cbs ofn), .int .i64 dims, .slice p ln c, .int .i64 at_, .int .i64 b, .int .i64 r, .int .i64 d, .int .i64 ref, .int .i64 zk, .int .i64 zn, .string (cbs zs), .string (cbs zo), .int .i64 zd, .slice zp zl zc, .int .i64 za, .int .i64 zb, .int .i64 zr, .int .i64 ze, .int .i64 zf] 39))
            clear F
            have F := F2
            clear F2
            have I2 := Lib.hid (I.out.alloc (.cells #[.int .i64 kind, .int .i64 num, .string (cbs name), .string (cbs ofn), .int .i64 dims, .slice p ln c, .int .i64 at_, .int .i64 b, .int .i64 r, .int .i64 d, .int .i64 ref, .int .i64 zk, .int .i64 zn, .string (cbs zs), .string (cbs zo), .int .i64 zd, .slice zp zl zc, .int .i64 za, .int .i64 zb, .int .i64 zr, .int .i64 ze, .int .i64 zf] 39))
            clear I
            have I := I2
            clear I2
            refine hK.out _ _ ⟨.inr ⟨HT5.out ▸ (F.out.keep _ (List.Mem.tail _ (List.Mem.tail _ (List.Mem.head _)))).1, (F.out.keep _ (List.Mem.tail _ (List.Mem.tail _ (List.Mem.tail _ (List.Mem.head _))))).1, (F.out.keep _ (List.Mem.tail _ (List.Mem.head _))).1⟩, ?_⟩
            clear hK K
            try simp only [Act.put, List.setIfInBounds_toArray, List.set_cons_zero, List.set_cons_succ]
            refine Till.one (f := 2) (i := 2) (by kernel_rfl) rfl ?_
            intro K hK
            rw [if_pos (by rfl)]
            go_simp
            refine (HLV2.out _).mono ?_
            rintro e' wk1 ⟨rfl, hb⟩
            have F2 := Lib.hid (F.out.go hb)
            clear F
            have F := F2
            clear F2
            have I2 := Lib.hid (I.out.below hb)
            clear I
            have I := I2
            clear I2
            clear hb
            try dsimp only
            refine hK.out _ _ ⟨.inr ⟨HT5.out ▸ (F.out.keep _ (List.Mem.tail _ (List.Mem.tail _ (List.Mem.head _)))).1, (F.out.keep _ (List.Mem.tail _ (List.Mem.tail _ (List.Mem.tail _ (List.Mem.head _))))).1, (F.out.keep _ (List.Mem.tail _ (List.Mem.head _))).1⟩, ?_⟩
            clear hK K
            try simp only [Act.put, List.setIfInBounds_toArray, List.set_cons_zero, List.set_cons_succ]
            refine Till.one (f := 1) (i := 8) (by kernel_rfl) rfl ?_
            intro K hK
            rw [if_pos (by rfl)]
            go_simp
            refine hK.out _ _ ⟨.inr ⟨HT5.out ▸ (F.out.keep _ (List.Mem.tail _ (List.Mem.tail _ (List.Mem.head _)))).1, (F.out.keep _ (List.Mem.tail _ (List.Mem.tail _ (List.Mem.tail _ (List.Mem.head _))))).1, (F.out.keep _ (List.Mem.tail _ (List.Mem.head _))).1⟩, ?_⟩
            clear hK K
            try simp only [Act.put, List.setIfInBounds_toArray, List.set_cons_zero, List.set_cons_succ]
            have hk := (F.out.keep _ (List.Mem.tail _ (List.Mem.tail _ (List.Mem.tail _ (List.Mem.head _)))))
            obtain ⟨⟨x0, x1, x2, x3, x4, x5, x6, x7, x8, x9, xX⟩, y0, y1, y2, y3, y4, y5, y6, y7, y8, y9, yX⟩ := hen hk.1
            have hlx := heap_lt' hk.1
            have hnx := hk.2
            clear hk
            have hmx := Ne.symm hnx
            refine Till.one (f := 0) (i := 9) (by kernel_rfl) rfl ?_
            intro K hK
            rw [if_pos (by rfl)]
            go_simp
            refine hK.out _ _ ⟨.inl rfl, ?_⟩
            clear hK K
            try simp only [Act.put, List.setIfInBounds_toArray, List.set_cons_zero, List.set_cons_succ]
            refine Till.done (by kernel_rfl) ?_ _
            go_wp2_with fail
            go_roundg m
            case measure => omega
            case rel =>
              have hz3 : w.heap.size < wl1.heap.size := HN1.out
              have hz4 : wl1.heap.size < wl6.heap.size + 1 := HSZ.out ▸ HLT.out
              have hbx := put11_other (N := wl1.heap.size) (HSZ.out ▸ (F.out.keep _ (List.Mem.head _)).1) (Nat.ne_of_gt hz4) (c0 := .int .i64 LK) (c1 := .int .i64 0) (c2 := .string ⟨#[]⟩) (c3 := .string ⟨#[]⟩) (c4 := .int .i64 0) (c5 := .slice (some ⟨wl6.heap.size + 1, 0, none⟩) 2 2) (c6 := .int .i64 t.at_) (c7 := .int .i64 0) (c8 := .int .i64 0) (c9 := .int .i64 0) (c10 := .int .i64 0)
              have htr := (F.out.trees _ (List.Mem.head _))
              dsimp only at hbx htr
              exact ⟨_, s5, _, _, _, _, _, _, _, _, _, _, _, _, _, ⟨F.out.write HH.out (List.Mem.tail _ (List.Mem.tail _ (List.Mem.tail _ (List.Mem.head _)))) (List.Mem.tail _ (List.Mem.tail _ (List.Mem.tail _ (List.Mem.tail _ (List.Mem.head _))))) (Nat.le_of_lt HN1.out) (Nat.ne_of_lt HN1.out) (c0 := .int .i64 LK) (c1 := .int .i64 0) (c2 := .string ⟨#[]⟩) (c3 := .string ⟨#[]⟩) (c4 := .int .i64 0) (c5 := .slice (some ⟨wl6.heap.size + 1, 0, none⟩) 2 2) (c6 := .int .i64 t.at_) (c7 := .int .i64 0) (c8 := .int .i64 0) (c9 := .int .i64 0) (c10 := .int .i64 0), IsOff.node2 hbx (by omega) (fun hh => by rcases hh with hh | hh <;> omega) (I.out.put11 (.inl rfl)) (IsOff.of (htr.1.put11 (N := wl1.heap.size) HNE.out) (Nat.le_of_lt htr.2.1) (fun q hq => hq.elim (fun e => by rw [e]; exact HNE.out) (fun e => by rw [e]; exact htr.2.1))) rfl LK 0 [] [] 0 t.at_ 2⟩, H5.out⟩
      · have hE2 : (s4.E == 0) = false := by simpa using hE
        have hsg : Qe.sign ts s4 n = 0 := by unfold Qe.sign; rw [if_neg (by simpa using hE)]
        have hx := qbin_no HX1.out hsg
        subst hx
        clear hsg
        rw [hE2] at HOK
        go_wp2_with fail
        refine (HOK.out _ F.out.qr).mono ?_
        rintro e wl2 ⟨rfl, rfl⟩
        have hk := (F.out.keep _ (List.Mem.head _))
        obtain ⟨⟨x0, x1, x2, x3, x4, x5, x6, x7, x8, x9, xX⟩, y0, y1, y2, y3, y4, y5, y6, y7, y8, y9, yX⟩ := hen hk.1
        have hlx := heap_lt' hk.1
        have hnx := hk.2
        clear hk
        have hmx := Ne.symm hnx
        have hk := (F.out.keep _ (List.Mem.tail _ (List.Mem.head _)))
        obtain ⟨⟨d0, d1, d2, d3, d4, d5, d6, d7, d8, d9, dX⟩, g0, g1, g2, g3, g4, g5, g6, g7, g8, g9, gX⟩ := hen hk.1
        have hld := heap_lt' hk.1
        have hnd := hk.2
        clear hk
        go_wp2_with fail
        have hn := (Nw.start F.out.gr).put11 (B := w.heap.size) (Nat.le_refl _) (c0 := .int .i64 kind) (c1 := .int .i64 num) (c2 := .string (cbs name)) (c3 := .string (cbs ofn)) (c4 := .int .i64 dims) (c5 := .slice p ln c) (c6 := .int .i64 at_) (c7 := .int .i64 b) (c8 := .int .i64 r) (c9 := .int .i64 d) (c10 := .int .i64 ref)
        exact bodyPost_ret (v := .agg #[.int .i64 kind, .int .i64 num, .string (cbs name), .string (cbs ofn), .int .i64 dims, .slice p ln c, .int .i64 at_, .int .i64 b, .int .i64 r, .int .i64 d, .int .i64 ref]) (by simp [results, Tryd.results38, go_sem, d0, d1, d2, d3, d4, d5, d6, d7, d8, d9, dX]) rfl ⟨_, _, _, _, _, _, _, _, _, _, _, _, _, rfl, (I.out.put11 (.inr rfl)).now, HH.out.fin F.out.qr hn, hn.gr⟩
end Go.Proofs.YtnadaedibicaaaaDoor
