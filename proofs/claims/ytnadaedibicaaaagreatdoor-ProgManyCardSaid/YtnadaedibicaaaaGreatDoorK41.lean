/-
  The project's reader of programs: a text's program.
-/
import Derived.Test.YtnadaedibicaaaaGreatDoorK33
import Derived.Test.YtnadaedibicaaaaGreatDoorK39
import Derived.Test.YtnadaedibicaaaaGreatDoorK04
import Derived.Test.YtnadaedibicaaaaGreatDoorK40
import Derived.Test.YtnadaedibicaaaaGreatDoorK06
namespace Go.Proofs.YtnadaedibicaaaaGreatDoor
open Go.RowKit
open Px (RT tokAt)
open Pe
open Ps (Sm PX)
open Pg (BX Pm Rc Fc Gm)

set_option maxRecDepth 8000 in
set_option maxHeartbeats 4000000 in
theorem resultPg_any (w : World) (R : Nat) (T : TypeId) (S : Value) (X : List Value) (ts : List RT) (s : Cs) (h : Cu w R T S X ts s) (ep : Option Addr) (el ec : Nat) (bp : Option Addr) (bl bc : Nat) (lp : Option Addr) (ll lc : Nat) :
    Calls Tryz.prog 18 #[.pointer (some ⟨R, 0, none⟩), .agg #[.slice ep el ec, .slice bp bl bc, .slice lp ll lc]] w fun e w' =>
      e = .returned (.tuple #[if s.E = 0 then .agg #[.slice ep el ec, .slice bp bl bc, .slice lp ll lc] else .agg #[.slice none 0 0, .slice none 0 0, .slice none 0 0], .int .i64 (ends s).1, .agg #[.int .i64 (ends s).2.1, .int .i64 (ends s).2.2]]) ∧ Below w.heap.size w w' := by
  obtain ⟨⟨c0, c1, c2, c3⟩, fr, hR⟩ := h.cells
  clear h c0 fr
  obtain ⟨k, E, F⟩ := s
  dsimp only at c1 c2 c3
  obtain ⟨wa, hwa⟩ : ∃ wa, wa = (((w.alloc (.cells #[.slice ep el ec, .slice bp bl bc, .slice lp ll lc] 26)).alloc (.cells #[.slice none 0 0, .slice none 0 0, .slice none 0 0] 26)).alloc (.cells #[.int .i64 0, .int .i64 0] 29)) := ⟨_, rfl⟩
  have hs : wa.heap.size = w.heap.size + 3 := by rw [hwa]; simp only [size_alloc]
  have hb : Below w.heap.size w wa := by rw [hwa]; exact (((Below.refl _ _).alloc (Nat.le_refl _) _).alloc (by simp only [size_alloc]; omega) _).alloc (by simp only [size_alloc]; omega) _
  have hkx : wa.heap[w.heap.size]? = some (.cells #[.slice ep el ec, .slice bp bl bc, .slice lp ll lc] 26 (0, 0)) := by
    rw [hwa]; have := heap_alloc_new (w) (.cells #[.slice ep el ec, .slice bp bl bc, .slice lp ll lc] 26); try simp only [size_alloc] at this
    exact alloc_box _ (alloc_box _ (this))
  have hka : wa.heap[w.heap.size + 1]? = some (.cells #[.slice none 0 0, .slice none 0 0, .slice none 0 0] 26 (0, 0)) := by
    rw [hwa]; have := heap_alloc_new ((w.alloc (.cells #[.slice ep el ec, .slice bp bl bc, .slice lp ll lc] 26))) (.cells #[.slice none 0 0, .slice none 0 0, .slice none 0 0] 26); try simp only [size_alloc] at this
    exact alloc_box _ (this)
  have hkb : wa.heap[w.heap.size + 1 + 1]? = some (.cells #[.int .i64 0, .int .i64 0] 29 (0, 0)) := by
    rw [hwa]; have := heap_alloc_new (((w.alloc (.cells #[.slice ep el ec, .slice bp bl bc, .slice lp ll lc] 26)).alloc (.cells #[.slice none 0 0, .slice none 0 0, .slice none 0 0] 26))) (.cells #[.int .i64 0, .int .i64 0] 29); try simp only [size_alloc] at this
    exact this
  have e1 := cell_of c1 hR hb
  have e2 := cell_of c2 hR hb
  have e3 := cell_of c3 hR hb
  have hRa : R < wa.heap.size := by omega
  obtain ⟨wb, hwb⟩ : ∃ wb, wb = wa.alloc (.cells #[.slice none 0 0, .slice none 0 0, .slice none 0 0] 26) := ⟨_, rfl⟩
  have hb2 : Below w.heap.size w wb := by rw [hwb]; exact hb.alloc (by omega) _
  have q2 := e2
  rw [hwa] at q2
  have HB := Lib.hid hb
  by_cases hE : E = 0
  · subst hE
    rw [show ends ⟨k, 0, F⟩ = (k, 0, 0) from rfl]
    dsimp only
    rw [if_pos rfl]
    obtain ⟨⟨x0, x1, x2⟩, xg0, xg1, xg2⟩ := tri hkx
    have hlx := heap_lt' hkx
    obtain ⟨⟨a0, a1, a2⟩, ag0, ag1, ag2⟩ := tri hka
    have hla := heap_lt' hka
    obtain ⟨⟨b0, b1⟩, ⟨bg0, bg1⟩, hlb⟩ := duo hkb
    clear hkx hka hkb c1 c2 c3 e2 e3 hb hs hb2 hwb
    go_enter Tryz.func18, Tryz.ntmps18
    go_wp2_with fail
    rw [← hwa]
    clear hwa q2
    go_region
    go_wp2_with fail
    refine bodyPost_ret (v := .tuple #[.agg #[.slice ep el ec, .slice bp bl bc, .slice lp ll lc], .int .i64 k, .agg #[.int .i64 0, .int .i64 0]]) (by simp [results, Tryz.results18, go_sem, a0, a1, a2, b0, b1]) rfl ⟨rfl, ?_⟩
    refine bl_drew ?_
    repeat (refine bl_put ?_ (by omega))
    exact HB.out
  · rw [show ends ⟨k, E, F⟩ = (0, E, F) from if_neg hE]
    dsimp only
    rw [if_neg hE]
    have hd : (E != 0) = true := by simpa using hE
    have HB2 := Lib.hid hb2
    have e2 := cell_of c2 hR hb2
    have e3 := cell_of c3 hR hb2
    replace hkx := by have := alloc_box (.cells #[.slice none 0 0, .slice none 0 0, .slice none 0 0] 26) hkx; rw [← hwb] at this; exact this
    replace hka := by have := alloc_box (.cells #[.slice none 0 0, .slice none 0 0, .slice none 0 0] 26) hka; rw [← hwb] at this; exact this
    replace hkb := by have := alloc_box (.cells #[.slice none 0 0, .slice none 0 0, .slice none 0 0] 26) hkb; rw [← hwb] at this; exact this
    have hkz : wb.heap[w.heap.size + 1 + 1 + 1]? = some (.cells #[.slice none 0 0, .slice none 0 0, .slice none 0 0] 26 (0, 0)) := by have := heap_alloc_new wa (.cells #[.slice none 0 0, .slice none 0 0, .slice none 0 0] 26); rw [hs, ← hwb] at this; exact this
    have hRb : R < wb.heap.size := by rw [hwb, size_alloc]; omega
    obtain ⟨⟨x0, x1, x2⟩, xg0, xg1, xg2⟩ := tri hkx
    have hlx := heap_lt' hkx
    obtain ⟨⟨a0, a1, a2⟩, ag0, ag1, ag2⟩ := tri hka
    have hla := heap_lt' hka
    obtain ⟨⟨b0, b1⟩, ⟨bg0, bg1⟩, hlb⟩ := duo hkb
    obtain ⟨⟨z0, z1, z2⟩, zg0, zg1, zg2⟩ := tri hkz
    have hlz := heap_lt' hkz
    clear hkx hka hkb hkz c1 c2 c3 e1 hb hs hb2
    clear hE
    go_enter Tryz.func18, Tryz.ntmps18
    go_wp2_with fail
    rw [← hwa, ← hwb]
    clear hwa q2 hwb
    go_region
    go_wp2_with fail
    refine bodyPost_ret (v := .tuple #[.agg #[.slice none 0 0, .slice none 0 0, .slice none 0 0], .int .i64 0, .agg #[.int .i64 E, .int .i64 F]]) (by simp [results, Tryz.results18, go_sem, a0, a1, a2, b0, b1]) rfl ⟨rfl, ?_⟩
    refine bl_drew ?_
    repeat (refine bl_put ?_ (by omega))
    exact HB2.out

set_option maxRecDepth 8000 in
set_option maxHeartbeats 4000000 in
theorem outermost_any {ts : List RT} {P : PX} (hP : POk ts P) {B : BX} {f : Nat} (hf : f ≤ 1000000000) (hB : ∀ k, Ps.parseB ts P f k 0 = some (B k)) : BOk ts B := by
  intro w R0 S k h hops
  have hb0 : Below w.heap.size w (w.alloc (.cells #[.int .i64 0, .int .i64 0] 29)) := (Below.refl _ _).alloc (Nat.le_refl _) _
  have HC := Lib.hid (blParse_any _ R0 S ts P hP k 0 (h.below hb0) (ops_go hops hb0) f hf (B k) (hB k))
  obtain ⟨p, n, c, rfl⟩ := h.slice
  clear h hops hP hB
  go_enter Tryz.func79, Tryz.ntmps79
  go_wp2_with fail
  refine HC.out.mono ?_
  rintro e w1 ⟨bp, bc, rfl, hat, hb⟩
  have HA := Lib.hid hat
  have HB := Lib.hid (below_seq hb0 hb hb0.size)
  obtain ⟨⟨d0, d1⟩, ⟨p0, p1⟩, hld⟩ := duo ((hb.block _ (heap_lt' (heap_alloc_new w _))).trans (heap_alloc_new w _))
  clear hat hb
  go_wp2_with fail
  refine bodyPost_ret (v := .tuple #[.slice bp (B k).1.length bc, .int .i64 (B k).2.1, .agg #[.int .i64 (B k).2.2.1, .int .i64 (B k).2.2.2]]) (by simp [results, Tryz.results79, go_sem, d0, d1]) rfl ⟨bp, bc, rfl, ?_, bl_put (bl_put HB.out (Nat.le_refl _)) (Nat.le_refl _)⟩
  have hlo := SsAt.lower HA.out (Nat.le_of_lt (by rw [size_alloc]; exact Nat.lt_succ_self _ : w.heap.size < (w.alloc (.cells #[.int .i64 0, .int .i64 0] 29)).heap.size))
  exact SsAt.ag (SsAt.ag HA.out ((Ag.refl _ _).set (.inl (by rw [size_alloc]; exact Nat.lt_succ_self _)) _)) ((Ag.refl _ _).set (.inl (by rw [size_alloc]; exact Nat.lt_succ_self _)) _) |>.lower (by rw [size_alloc]; omega)


theorem GIs.put {w : World} {B b i : Nat} {x : Gm} {vs : List Value} {u : Value} (h : GIs w B x vs) (hb : b < B) : GIs (w.setCell ⟨b, i, none⟩ u) B x vs := h.ag ((Ag.refl _ _).set (.inl hb) u)
theorem GIs.dr {w : World} {B : Nat} {x : Gm} {vs : List Value} (h : GIs w B x vs) : GIs w.drew B x vs := h.ag (Ag.below (Below.refl _ _).drew)
/-- What Parse answers. -/
def PaPost (w : World) (x : Gm × Int × Int) (e : Ending) (w' : World) : Prop :=
  ∃ p n c q m d r k f, e = .returned (.tuple #[.agg #[.slice p n c, .slice q m d, .slice r k f], .agg #[.int .i64 x.2.1, .int .i64 x.2.2]]) ∧ GIs w' w.heap.size x.1 [.slice p n c, .slice q m d, .slice r k f] ∧ Below w.heap.size w w'

set_option maxRecDepth 8000 in
set_option maxHeartbeats 4000000 in
theorem parse_bad (s : ByteArray) (hs : s.size ≤ maxLen) (us : List Ln.Lx.Tk) (E K : Nat) (h : Ln.Lx.toks s.data.toList = (us, E, K)) (hE : E ≠ 0) (w : World) (he : EnvG w) :
    Calls Tryz.prog 8 #[.string s] w (PaPost w (Gm.zero, E, K)) := by
  obtain ⟨wa, hwa⟩ : ∃ wa, wa = (w.alloc (.cells #[.slice none 0 0, .slice none 0 0, .slice none 0 0] 26)).alloc (.cells #[.int .i64 0, .int .i64 0] 29) := ⟨_, rfl⟩
  have hba : Below w.heap.size w wa := by rw [hwa]; exact ((Below.refl _ _).alloc (Nat.le_refl _) _).alloc (by rw [size_alloc]; omega) _
  have htk := Ln.tokens_any s hs wa (he.below hba).lex
  unfold Ln.TokRes at htk
  rw [h] at htk
  have HTK := Lib.hid htk
  have HB := Lib.hid hba
  have hk1 : wa.heap[w.heap.size]? = some (.cells #[.slice none 0 0, .slice none 0 0, .slice none 0 0] 26 (0, 0)) := by rw [hwa]; exact alloc_box _ (heap_alloc_new w _)
  have hk2 : wa.heap[w.heap.size + 1]? = some (.cells #[.int .i64 0, .int .i64 0] 29 (0, 0)) := by rw [hwa]; have := heap_alloc_new (w.alloc (.cells #[.slice none 0 0, .slice none 0 0, .slice none 0 0] 26)) (.cells #[.int .i64 0, .int .i64 0] 29); rw [size_alloc] at this; exact this
  have hsz : wa.heap.size = w.heap.size + 2 := by rw [hwa]; simp only [size_alloc]
  have HK1 := Lib.hid hk1
  have HK2 := Lib.hid hk2
  have HSZ := Lib.hid hsz
  have hE1 : ((E : Int) != 0) = true := by rw [bne_iff_ne]; omega
  have hE2 : (E != 0) = true := by rw [bne_iff_ne]; exact hE
  clear h he htk hba hk1 hk2 hsz hE
  go_enter Tryz.func8, Tryz.ntmps8
  go_wp2_with fail
  rw [← hwa]
  clear hwa
  refine HTK.out.mono ?_
  rintro e w1 ⟨A, c, rfl, hl1, hb1⟩
  have HB1 := Lib.hid (below_seq HB.out hb1 HB.out.size)
  obtain ⟨wb, hwb⟩ : ∃ wb, wb = w1.alloc (.cells #[.int .i64 (E : Int), .int .i64 (K : Int)] 29) := ⟨_, rfl⟩
  have hbb : Below w1.heap.size w1 wb := by rw [hwb]; exact (Below.refl _ _).alloc (Nat.le_refl _) _
  have hb2 := below_seq hb1 hbb hb1.size
  have HB2 := Lib.hid (below_seq HB1.out hbb HB1.out.size)
  obtain ⟨⟨x0, x1, x2⟩, y0, y1, y2⟩ := tri ((hb2.block _ (heap_lt' HK1.out)).trans HK1.out)
  have hlx := heap_lt' ((hb2.block _ (heap_lt' HK1.out)).trans HK1.out)
  obtain ⟨⟨z0, z1⟩, ⟨v0, v1⟩, hlz⟩ := duo ((hb2.block _ (heap_lt' HK2.out)).trans HK2.out)
  obtain ⟨⟨m0, m1⟩, ⟨n0, n1⟩, hlm⟩ := duo (show wb.heap[w1.heap.size]? = some (.cells #[.int .i64 (E : Int), .int .i64 (K : Int)] 29 (0, 0)) by rw [hwb]; exact heap_alloc_new w1 _)
  have hz1 := hb1.size
  have hsz := HSZ.out
  have hq1 : w.heap.size ≠ w.heap.size + 1 := by omega
  have hq2 := Ne.symm hq1
  have hq3 : w.heap.size + 1 ≠ w1.heap.size := by omega
  have hq4 := Ne.symm hq3
  have hq5 : w.heap.size ≠ w1.heap.size := by omega
  have hq6 := Ne.symm hq5
  clear hl1 hb1 hb2 hbb hz1 hsz
  go_wp2_with fail
  try rw [← hwb]
  clear hwb
  go_region
  all_goals
    go_wp2_with fail
    refine bodyPost_ret (v := .tuple #[.agg #[.slice none 0 0, .slice none 0 0, .slice none 0 0], .agg #[.int .i64 (E : Int), .int .i64 (K : Int)]]) (by simp [results, Tryz.results8, go_sem, x0, x1, x2, z0, z1]) rfl ⟨none, 0, 0, none, 0, 0, none, 0, 0, rfl, GIs.zero, ?_⟩
    refine bl_drew ?_
    repeat (refine bl_put ?_ (by omega))
    exact HB2.out

set_option maxRecDepth 8000 in
set_option maxHeartbeats 8000000 in
theorem parse_ok (s : ByteArray) (hs : s.size ≤ maxLen) (us : List Ln.Lx.Tk) (K : Nat) (h : Ln.Lx.toks s.data.toList = (us, 0, K)) (w : World) (he : EnvG w) (B : BX) (hB : BOk (us.map toRT) B) (g : Nat) (hg : g ≤ 900000000) (x : Gm × Int × Int) (hx : Pg.run (us.map toRT) B g = some x) :
    Calls Tryz.prog 8 #[.string s] w (PaPost w x) := by
  obtain ⟨p3, s3, h3, hpx⟩ : ∃ p3 s3, Pg.loop (us.map toRT) B g Gm.zero ⟨0, 0, 0⟩ = some (p3, s3) ∧ x = Pg.pgEnd p3 s3 := by
    unfold Pg.run at hx
    split at hx
    · cases hx
    · rename_i p s hl
      exact ⟨p, s, hl, (Option.some.inj hx).symm⟩
  obtain ⟨px, Ex, Fx⟩ := x
  have HPX := Lib.hid hpx
  clear hpx
  have hsh : ∀ t ∈ us, t.text.length ≤ 281474976710656 := by have := toks_text s.data.toList; rw [h] at this; exact this
  obtain ⟨wa, hwa⟩ : ∃ wa, wa = (w.alloc (.cells #[.slice none 0 0, .slice none 0 0, .slice none 0 0] 26)).alloc (.cells #[.int .i64 0, .int .i64 0] 29) := ⟨_, rfl⟩
  have hba : Below w.heap.size w wa := by rw [hwa]; exact ((Below.refl _ _).alloc (Nat.le_refl _) _).alloc (by rw [size_alloc]; omega) _
  have htk := Ln.tokens_any s hs wa (he.below hba).lex
  unfold Ln.TokRes at htk
  rw [h] at htk
  have HTK := Lib.hid htk
  have HB := Lib.hid hba
  have hk1 : wa.heap[w.heap.size]? = some (.cells #[.slice none 0 0, .slice none 0 0, .slice none 0 0] 26 (0, 0)) := by rw [hwa]; exact alloc_box _ (heap_alloc_new w _)
  have hk2 : wa.heap[w.heap.size + 1]? = some (.cells #[.int .i64 0, .int .i64 0] 29 (0, 0)) := by rw [hwa]; have := heap_alloc_new (w.alloc (.cells #[.slice none 0 0, .slice none 0 0, .slice none 0 0] 26)) (.cells #[.int .i64 0, .int .i64 0] 29); rw [size_alloc] at this; exact this
  have hsz : wa.heap.size = w.heap.size + 2 := by rw [hwa]; simp only [size_alloc]
  have HK1 := Lib.hid hk1
  have HK2 := Lib.hid hk2
  have HSZ := Lib.hid hsz
  have HSH := Lib.hid hsh
  have HOP := Lib.hid he.ops
  have H3 := Lib.hid h3
  have HBB := Lib.hid hB
  have HG := Lib.hid hg
  clear h he htk hba hk1 hk2 hsz hsh h3 hB hx hg
  go_enter Tryz.func8, Tryz.ntmps8
  go_wp2_with fail
  rw [← hwa]
  clear hwa
  refine HTK.out.mono ?_
  rintro e w1 ⟨A, c, rfl, hl1, hb1⟩
  obtain ⟨wb, hwb⟩ : ∃ wb, wb = w1.alloc (.cells #[.int .i64 0, .int .i64 (K : Int)] 29) := ⟨_, rfl⟩
  have hbb : Below w1.heap.size w1 wb := by rw [hwb]; exact (Below.refl _ _).alloc (Nat.le_refl _) _
  have hb2 := below_seq hb1 hbb hb1.size
  have HB2 := Lib.hid (below_seq (below_seq HB.out hb1 HB.out.size) hbb (below_seq HB.out hb1 HB.out.size).size)
  have HK3 := Lib.hid ((hb2.block _ (heap_lt' HK1.out)).trans HK1.out)
  have HK4 := Lib.hid ((hb2.block _ (heap_lt' HK2.out)).trans HK2.out)
  have HK5 := Lib.hid (show wb.heap[w1.heap.size]? = some (.cells #[.int .i64 0, .int .i64 (K : Int)] 29 (0, 0)) by rw [hwb]; exact heap_alloc_new w1 _)
  have HT := Lib.hid ((toks_of (c := c) hl1 HSH.out).below hbb)
  have HZ1 := Lib.hid hb1.size
  have HZB := Lib.hid (show wb.heap.size = w1.heap.size + 1 by rw [hwb, size_alloc])
  clear hl1 hb1 hb2 hbb
  go_wp2_with fail
  try rw [← hwb]
  clear hwb
  refine (new_any _ A us.length c 0).mono ?_
  rintro e w2 ⟨rfl, hb⟩
  have hcu : Cu (w2.alloc (.cells #[.slice A us.length c, .int .i64 0, .int .i64 0, .int .i64 0] 57)) w2.heap.size 57 (.slice A us.length c) [] (us.map toRT) ⟨0, 0, 0⟩ :=
    ⟨heap_alloc_new w2 _, ((HT.out.below hb).re (Nat.le_refl _)).gr (Gr.alloc (Gr.refl _ _) _)⟩
  have hb3 := below_seq HB2.out hb HB2.out.size
  have hcg : Cg (w2.alloc (.cells #[.slice A us.length c, .int .i64 0, .int .i64 0, .int .i64 0] 57)) w2.heap.size (.slice A us.length c) (us.map toRT) ⟨0, 0, 0⟩ :=
    ⟨hcu, ops_go HOP.out (bl_alloc hb3), by obtain ⟨t, fr, ho⟩ := HOP.out; have := heap_lt' ho; have := hb3.size; omega⟩
  have HCG := Lib.hid hcg
  have HB3 := Lib.hid hb3
  have HZ2 := Lib.hid hb.size
  have HL1 := Lib.hid ((hb.block _ (heap_lt' HK3.out)).trans HK3.out)
  have HL2 := Lib.hid ((hb.block _ (heap_lt' HK4.out)).trans HK4.out)
  have HL5 := Lib.hid ((hb.block _ (heap_lt' HK5.out)).trans HK5.out)
  clear hcu hcg hb hb3
  go_wp2_with fail
  refine (program_any _ _ _ _ _ HCG.out B HBB.out g HG.out _ H3.out).mono ?_
  rintro e w3 ⟨p1, n1, c1, p2, n2, c2, p4, n4, c4, rfl, hgi, hcu, hg⟩
  have hga := (Gr.alloc (Gr.refl w2.heap.size w2) (.cells #[.slice A us.length c, .int .i64 0, .int .i64 0, .int .i64 0] 57)).trans hg
  have HM1 := Lib.hid (hga.box HL1.out (Nat.ne_of_lt (heap_lt' HL1.out)))
  have HM2 := Lib.hid (hga.box HL2.out (Nat.ne_of_lt (heap_lt' HL2.out)))
  have HM5 := Lib.hid (hga.box HL5.out (Nat.ne_of_lt (heap_lt' HL5.out)))
  have HB4 := Lib.hid (below_seq HB3.out (hga.fresh (Nat.le_refl _)) HB3.out.size)
  have HGI := Lib.hid (hgi.lower (B2 := w2.heap.size) (by rw [size_alloc]; omega))
  have HCU := Lib.hid hcu
  have HZ3 : Hid (w2.heap.size < w3.heap.size) := hcu.lt
  clear hgi hcu hg hga
  have hpe := HPX.out.symm
  have hres : Calls Tryz.prog 18 #[.pointer (some ⟨w2.heap.size, 0, none⟩), .agg #[.slice p1 n1 c1, .slice p2 n2 c2, .slice p4 n4 c4]] w3 fun e w4 =>
      ∃ q1 r1 d1 q2 r2 d2 q4 r4 d4 k, e = .returned (.tuple #[.agg #[.slice q1 r1 d1, .slice q2 r2 d2, .slice q4 r4 d4], .int .i64 k, .agg #[.int .i64 Ex, .int .i64 Fx]]) ∧ GIs w4 w2.heap.size px [.slice q1 r1 d1, .slice q2 r2 d2, .slice q4 r4 d4] ∧ Below w3.heap.size w3 w4 := by
    refine (resultPg_any _ _ _ _ _ _ _ HCU.out p1 n1 c1 p2 n2 c2 p4 n4 c4).mono ?_
    obtain ⟨k3, E3, F3⟩ := s3
    by_cases hE : E3 = 0
    · subst hE
      obtain ⟨rfl, rfl, rfl⟩ : p3 = px ∧ 0 = Ex ∧ 0 = Fx := by simpa [Pg.pgEnd] using hpe
      rintro e w4 ⟨rfl, hb⟩
      exact ⟨p1, n1, c1, p2, n2, c2, p4, n4, c4, k3, rfl, HGI.out.ag (Ag.below hb), hb⟩
    · obtain ⟨rfl, rfl, rfl⟩ : Gm.zero = px ∧ E3 = Ex ∧ F3 = Fx := by simpa [Pg.pgEnd, hE] using hpe
      rw [show ends ⟨k3, E3, F3⟩ = (0, E3, F3) from if_neg hE]
      dsimp only
      rw [if_neg hE]
      rintro e w4 ⟨rfl, hb⟩
      exact ⟨none, 0, 0, none, 0, 0, none, 0, 0, 0, rfl, GIs.zero, hb⟩
  have HRES := Lib.hid hres
  clear hres hpe HCU HGI
  go_wp2_with fail
  refine HRES.out.mono ?_
  rintro e w4 ⟨q1, r1, d1, q2, r2, d2, q4, r4, d4, k, rfl, hgi, hb⟩
  have HGI := Lib.hid hgi
  clear hgi HRES
  have hM5 := (hb.block _ (heap_lt' HM5.out)).trans HM5.out
  obtain ⟨⟨m0, m1⟩, ⟨j0, j1⟩, hlm⟩ := duo hM5
  have hM1 := (hb.block _ (heap_lt' HM1.out)).trans HM1.out
  have hM2 := (hb.block _ (heap_lt' HM2.out)).trans HM2.out
  have HB5 := Lib.hid (below_seq HB4.out hb HB4.out.size)
  have HGI4 := HGI
  have HZ4 := Lib.hid hb.size
  have HN1 := Lib.hid hM1
  have HN2 := Lib.hid hM2
  clear hM1 hM2 hb
  have hw4 : w4.heap.size ≠ w1.heap.size := Nat.ne_of_gt hlm
  have hw5 := Ne.symm hw4
  obtain ⟨wc, hwc⟩ : ∃ wc, wc = ((w4.setCell ⟨w1.heap.size, 0, none⟩ (.int .i64 Ex)).setCell ⟨w1.heap.size, 1, none⟩ (.int .i64 Fx)).alloc (.cells #[.slice q1 r1 d1, .slice q2 r2 d2, .slice q4 r4 d4] 26) := ⟨_, rfl⟩
  have hszc : wc.heap.size = w4.heap.size + 1 := by rw [hwc, size_alloc, size_set, size_set]
  have hkc : ∀ bl, bl < w4.heap.size → bl ≠ w1.heap.size → wc.heap[bl]? = w4.heap[bl]? := fun bl hl hn => by
    rw [hwc, heap_alloc_old _ _ (by rw [size_set, size_set]; exact hl), Below.heap_setCell _ ⟨w1.heap.size, 1, none⟩ _ bl hn, Below.heap_setCell _ ⟨w1.heap.size, 0, none⟩ _ bl hn]
  have hsz := HSZ.out
  have hz1 := HZ1.out
  have hzb := HZB.out
  have hz2 := HZ2.out
  have hz3 := HZ3.out
  have hz4 := HZ4.out
  obtain ⟨⟨x0, x1, x2⟩, y0, y1, y2⟩ := tri ((hkc _ (by omega) (by omega)).trans HN1.out)
  obtain ⟨⟨z0, z1⟩, ⟨v0, v1⟩, hlz⟩ := duo ((hkc _ (by omega) (by omega)).trans HN2.out)
  obtain ⟨⟨t0, t1, t2⟩, f0, f1, f2⟩ := tri (show wc.heap[w4.heap.size]? = some (.cells #[.slice q1 r1 d1, .slice q2 r2 d2, .slice q4 r4 d4] 26 (0, 0)) by rw [hwc]; have := heap_alloc_new ((w4.setCell ⟨w1.heap.size, 0, none⟩ (.int .i64 Ex)).setCell ⟨w1.heap.size, 1, none⟩ (.int .i64 Fx)) (.cells #[.slice q1 r1 d1, .slice q2 r2 d2, .slice q4 r4 d4] 26); rw [size_set, size_set] at this; exact this)
  have h5r : wc.heap[w1.heap.size]? = some (.cells #[.int .i64 Ex, .int .i64 Fx] 29 (0, 0)) := by
    rw [hwc, heap_alloc_old _ _ (by rw [size_set, size_set]; exact hlm)]
    exact row_set (row_set hM5 0 _ rfl) 1 _ rfl
  have HBC := Lib.hid (show Below w.heap.size w wc by rw [hwc]; exact bl_alloc (bl_put (bl_put HB5.out (by omega)) (by omega)))
  have HAG := Lib.hid (show Ag w2.heap.size w4 wc from ⟨by omega, fun bl h1 h2 => hkc bl h2 (by omega)⟩)
  have hlx : w.heap.size < wc.heap.size := by omega
  have hlz2 : w.heap.size + 1 < wc.heap.size := by omega
  have hlr : w4.heap.size < wc.heap.size := by omega
  have hls : w1.heap.size < wc.heap.size := by omega
  have hq1 : w.heap.size ≠ w.heap.size + 1 := by omega
  have hq2 := Ne.symm hq1
  have hq3 : w.heap.size + 1 ≠ w1.heap.size := by omega
  have hq4 := Ne.symm hq3
  have hq5 : w.heap.size ≠ w1.heap.size := by omega
  have hq6 := Ne.symm hq5
  have hq7 : w.heap.size ≠ w4.heap.size := by omega
  have hq8 := Ne.symm hq7
  have hq9 : w.heap.size + 1 ≠ w4.heap.size := by omega
  have hqX := Ne.symm hq9
  clear hkc hsz hz1 hzb hz2 hz3 hz4 hM5 hszc
  go_wp2_with fail
  try rw [← hwc]
  clear hwc m0 m1 j0 j1 hlm
  obtain ⟨⟨m0, m1⟩, ⟨j0, j1⟩, hlm⟩ := duo h5r
  clear h5r
  go_region
  all_goals
    go_wp2_with fail
    refine bodyPost_ret (v := .tuple #[.agg #[.slice q1 r1 d1, .slice q2 r2 d2, .slice q4 r4 d4], .agg #[.int .i64 Ex, .int .i64 Fx]]) (by simp [results, Tryz.results8, go_sem, x0, x1, x2, z0, z1]) rfl ⟨q1, r1, d1, q2, r2, d2, q4, r4, d4, rfl, ?_, ?_⟩
    · first
        | (have hz0 : w.heap.size + 2 ≤ w2.heap.size := by (have := HSZ.out; have := HZ1.out; have := HZB.out; have := HZ2.out; omega)
           refine GIs.lower (B := w2.heap.size) ?_ (by omega)
           have hgw := HGI4.out.ag HAG.out
           with_reducible repeat (first | exact hgw | refine GIs.put ?_ (by omega) | refine GIs.dr ?_))
    · refine bl_drew ?_
      repeat (refine bl_put ?_ (by omega))
      exact HBC.out
end Go.Proofs.YtnadaedibicaaaaGreatDoor
