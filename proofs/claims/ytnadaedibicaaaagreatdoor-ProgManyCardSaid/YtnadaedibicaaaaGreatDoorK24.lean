/-
  The contracts of the project's reader: a new one; an expression read from a place.
-/
import Derived.Test.YtnadaedibicaaaaGreatDoorK23
import Derived.Deep.RegionWith
namespace Go.Proofs.YtnadaedibicaaaaGreatDoor
open Go.RowKit
open Px (RT tokAt)
open Pe

theorem newNested_any (w : World) (p : Option Addr) (n c : Nat) (k o : Int) :
    Calls Tryz.prog 124 #[.slice p n c, .int .i64 k, .int .i64 o] w fun e w' => e = .returned (.agg #[.slice p n c, .int .i64 k, .int .i64 0, .int .i64 0, .int .i64 (min (max o 0) 50)]) ∧ Below w.heap.size w w' := by
  go_enter Tryz.func124, Tryz.ntmps124
  go_wp2_with fail
  refine (new_any _ p n c k).mono ?_
  rintro e w1 ⟨rfl, hb1⟩
  have hkx := mineB hb1
  have HB := Lib.hid (below_seq ((Below.refl w.heap.size w).alloc (Nat.le_refl _) _) hb1 (by rw [size_alloc]; omega))
  have hl := heap_lt' hkx
  have c0 : w1.cell? ⟨w.heap.size, 0, none⟩ = some (.slice none 0 0) := by rw [cell_of_row _ _ _ _ _ _ hkx]; rfl
  have c1 : w1.cell? ⟨w.heap.size, 1, none⟩ = some (.int .i64 0) := by rw [cell_of_row _ _ _ _ _ _ hkx]; rfl
  have c2 : w1.cell? ⟨w.heap.size, 2, none⟩ = some (.int .i64 0) := by rw [cell_of_row _ _ _ _ _ _ hkx]; rfl
  have c3 : w1.cell? ⟨w.heap.size, 3, none⟩ = some (.int .i64 0) := by rw [cell_of_row _ _ _ _ _ _ hkx]; rfl
  have c4 : w1.cell? ⟨w.heap.size, 4, none⟩ = some (.int .i64 0) := by rw [cell_of_row _ _ _ _ _ _ hkx]; rfl
  have g0 := frozen_of_row _ _ 0 _ _ hkx
  have g1 := frozen_of_row _ _ 1 _ _ hkx
  have g2 := frozen_of_row _ _ 2 _ _ hkx
  have g3 := frozen_of_row _ _ 3 _ _ hkx
  have g4 := frozen_of_row _ _ 4 _ _ hkx
  clear hb1 hkx
  go_wp2_with fail
  refine bodyPost_ret (v := .agg #[.slice p n c, .int .i64 k, .int .i64 0, .int .i64 0, .int .i64 (min (max o 0) 50)]) (by simp [results, Tryz.results124, go_sem, c0, c1, c2, c3, c4]) rfl ⟨rfl, ?_⟩
  repeat (refine bl_put ?_ (Nat.le_refl _))
  exact HB.out

set_option maxRecDepth 8000 in
set_option maxHeartbeats 4000000 in
theorem resultEx_any (w : World) (R : Nat) (T : TypeId) (S : Value) (X : List Value) (ts : List RT) (s : Cs) (h : Cu w R T S X ts s) (zk zn : Int) (zs zo : ByteArray) (zd : Int) (zp : Option Addr) (zl zc : Nat) (za zb zr ze zf : Int) :
    Calls Tryz.prog 164 #[.pointer (some ⟨R, 0, none⟩), .agg #[.int .i64 zk, .int .i64 zn, .string zs, .string zo, .int .i64 zd, .slice zp zl zc, .int .i64 za, .int .i64 zb, .int .i64 zr, .int .i64 ze, .int .i64 zf]] w fun e w' =>
      e = .returned (.tuple #[if s.E = 0 then .agg #[.int .i64 zk, .int .i64 zn, .string zs, .string zo, .int .i64 zd, .slice zp zl zc, .int .i64 za, .int .i64 zb, .int .i64 zr, .int .i64 ze, .int .i64 zf] else .agg #[.int .i64 0, .int .i64 0, .string ⟨#[]⟩, .string ⟨#[]⟩, .int .i64 0, .slice none 0 0, .int .i64 0, .int .i64 0, .int .i64 0, .int .i64 0, .int .i64 0], .int .i64 (ends s).1, .agg #[.int .i64 (ends s).2.1, .int .i64 (ends s).2.2]]) ∧ Below w.heap.size w w' := by
  obtain ⟨⟨c0, c1, c2, c3⟩, fr, hR⟩ := h.cells
  clear h c0 fr
  obtain ⟨k, E, F⟩ := s
  dsimp only at c1 c2 c3
  obtain ⟨wa, hwa⟩ : ∃ wa, wa = (((w.alloc (.cells #[.int .i64 zk, .int .i64 zn, .string zs, .string zo, .int .i64 zd, .slice zp zl zc, .int .i64 za, .int .i64 zb, .int .i64 zr, .int .i64 ze, .int .i64 zf] 106)).alloc (.cells #[.int .i64 0, .int .i64 0, .string ⟨#[]⟩, .string ⟨#[]⟩, .int .i64 0, .slice none 0 0, .int .i64 0, .int .i64 0, .int .i64 0, .int .i64 0, .int .i64 0] 106)).alloc (.cells #[.int .i64 0, .int .i64 0] 29)) := ⟨_, rfl⟩
  have hs : wa.heap.size = w.heap.size + 3 := by rw [hwa]; simp only [size_alloc]
  have hb : Below w.heap.size w wa := by rw [hwa]; exact (((Below.refl _ _).alloc (Nat.le_refl _) _).alloc (by simp only [size_alloc]; omega) _).alloc (by simp only [size_alloc]; omega) _
  have hkx : wa.heap[w.heap.size]? = some (.cells #[.int .i64 zk, .int .i64 zn, .string zs, .string zo, .int .i64 zd, .slice zp zl zc, .int .i64 za, .int .i64 zb, .int .i64 zr, .int .i64 ze, .int .i64 zf] 106 (0, 0)) := by
    rw [hwa]; have := heap_alloc_new (w) (.cells #[.int .i64 zk, .int .i64 zn, .string zs, .string zo, .int .i64 zd, .slice zp zl zc, .int .i64 za, .int .i64 zb, .int .i64 zr, .int .i64 ze, .int .i64 zf] 106); try simp only [size_alloc] at this
    exact alloc_box _ (alloc_box _ (this))
  have hka : wa.heap[w.heap.size + 1]? = some (.cells #[.int .i64 0, .int .i64 0, .string ⟨#[]⟩, .string ⟨#[]⟩, .int .i64 0, .slice none 0 0, .int .i64 0, .int .i64 0, .int .i64 0, .int .i64 0, .int .i64 0] 106 (0, 0)) := by
    rw [hwa]; have := heap_alloc_new ((w.alloc (.cells #[.int .i64 zk, .int .i64 zn, .string zs, .string zo, .int .i64 zd, .slice zp zl zc, .int .i64 za, .int .i64 zb, .int .i64 zr, .int .i64 ze, .int .i64 zf] 106))) (.cells #[.int .i64 0, .int .i64 0, .string ⟨#[]⟩, .string ⟨#[]⟩, .int .i64 0, .slice none 0 0, .int .i64 0, .int .i64 0, .int .i64 0, .int .i64 0, .int .i64 0] 106); try simp only [size_alloc] at this
    exact alloc_box _ (this)
  have hkb : wa.heap[w.heap.size + 1 + 1]? = some (.cells #[.int .i64 0, .int .i64 0] 29 (0, 0)) := by
    rw [hwa]; have := heap_alloc_new (((w.alloc (.cells #[.int .i64 zk, .int .i64 zn, .string zs, .string zo, .int .i64 zd, .slice zp zl zc, .int .i64 za, .int .i64 zb, .int .i64 zr, .int .i64 ze, .int .i64 zf] 106)).alloc (.cells #[.int .i64 0, .int .i64 0, .string ⟨#[]⟩, .string ⟨#[]⟩, .int .i64 0, .slice none 0 0, .int .i64 0, .int .i64 0, .int .i64 0, .int .i64 0, .int .i64 0] 106))) (.cells #[.int .i64 0, .int .i64 0] 29); try simp only [size_alloc] at this
    exact this
  have e1 := cell_of c1 hR hb
  have e2 := cell_of c2 hR hb
  have e3 := cell_of c3 hR hb
  have hRa : R < wa.heap.size := by omega
  obtain ⟨wb, hwb⟩ : ∃ wb, wb = wa.alloc (.cells #[.int .i64 0, .int .i64 0, .string ⟨#[]⟩, .string ⟨#[]⟩, .int .i64 0, .slice none 0 0, .int .i64 0, .int .i64 0, .int .i64 0, .int .i64 0, .int .i64 0] 106) := ⟨_, rfl⟩
  have hb2 : Below w.heap.size w wb := by rw [hwb]; exact hb.alloc (by omega) _
  have q2 := e2
  rw [hwa] at q2
  have HB := Lib.hid hb
  by_cases hE : E = 0
  · subst hE
    rw [show ends ⟨k, 0, F⟩ = (k, 0, 0) from rfl]
    dsimp only
    rw [if_pos rfl]
    obtain ⟨⟨x0, x1, x2, x3, x4, x5, x6, x7, x8, x9, xX⟩, xg0, xg1, xg2, xg3, xg4, xg5, xg6, xg7, xg8, xg9, xgX⟩ := hen hkx
    have hlx := heap_lt' hkx
    obtain ⟨⟨a0, a1, a2, a3, a4, a5, a6, a7, a8, a9, aX⟩, ag0, ag1, ag2, ag3, ag4, ag5, ag6, ag7, ag8, ag9, agX⟩ := hen hka
    have hla := heap_lt' hka
    obtain ⟨⟨b0, b1⟩, ⟨bg0, bg1⟩, hlb⟩ := duo hkb
    clear hkx hka hkb c1 c2 c3 e2 e3 hb hs hb2 hwb
    go_enter Tryz.func164, Tryz.ntmps164
    go_wp2_with fail
    rw [← hwa]
    clear hwa q2
    go_region
    go_wp2_with fail
    refine bodyPost_ret (v := .tuple #[.agg #[.int .i64 zk, .int .i64 zn, .string zs, .string zo, .int .i64 zd, .slice zp zl zc, .int .i64 za, .int .i64 zb, .int .i64 zr, .int .i64 ze, .int .i64 zf], .int .i64 k, .agg #[.int .i64 0, .int .i64 0]]) (by simp [results, Tryz.results164, go_sem, a0, a1, a2, a3, a4, a5, a6, a7, a8, a9, aX, b0, b1]) rfl ⟨rfl, ?_⟩
    refine bl_drew ?_
    repeat (refine bl_put ?_ (by omega))
    exact HB.out
  · rw [show ends ⟨k, E, F⟩ = (0, E, F) from if_neg hE]
    dsimp only
    rw [if_neg hE]
    have hd : (E != 0) = true := by simpa using hE
    have HB2 := Lib.hid hb2
    have e2 := cell_of c2 hR hb2
    have e3 := cell_of c3 hR hb2
    replace hkx := by have := alloc_box (.cells #[.int .i64 0, .int .i64 0, .string ⟨#[]⟩, .string ⟨#[]⟩, .int .i64 0, .slice none 0 0, .int .i64 0, .int .i64 0, .int .i64 0, .int .i64 0, .int .i64 0] 106) hkx; rw [← hwb] at this; exact this
    replace hka := by have := alloc_box (.cells #[.int .i64 0, .int .i64 0, .string ⟨#[]⟩, .string ⟨#[]⟩, .int .i64 0, .slice none 0 0, .int .i64 0, .int .i64 0, .int .i64 0, .int .i64 0, .int .i64 0] 106) hka; rw [← hwb] at this; exact this
    replace hkb := by have := alloc_box (.cells #[.int .i64 0, .int .i64 0, .string ⟨#[]⟩, .string ⟨#[]⟩, .int .i64 0, .slice none 0 0, .int .i64 0, .int .i64 0, .int .i64 0, .int .i64 0, .int .i64 0] 106) hkb; rw [← hwb] at this; exact this
    have hkz : wb.heap[w.heap.size + 1 + 1 + 1]? = some (.cells #[.int .i64 0, .int .i64 0, .string ⟨#[]⟩, .string ⟨#[]⟩, .int .i64 0, .slice none 0 0, .int .i64 0, .int .i64 0, .int .i64 0, .int .i64 0, .int .i64 0] 106 (0, 0)) := by have := heap_alloc_new wa (.cells #[.int .i64 0, .int .i64 0, .string ⟨#[]⟩, .string ⟨#[]⟩, .int .i64 0, .slice none 0 0, .int .i64 0, .int .i64 0, .int .i64 0, .int .i64 0, .int .i64 0] 106); rw [hs, ← hwb] at this; exact this
    have hRb : R < wb.heap.size := by rw [hwb, size_alloc]; omega
    obtain ⟨⟨x0, x1, x2, x3, x4, x5, x6, x7, x8, x9, xX⟩, xg0, xg1, xg2, xg3, xg4, xg5, xg6, xg7, xg8, xg9, xgX⟩ := hen hkx
    have hlx := heap_lt' hkx
    obtain ⟨⟨a0, a1, a2, a3, a4, a5, a6, a7, a8, a9, aX⟩, ag0, ag1, ag2, ag3, ag4, ag5, ag6, ag7, ag8, ag9, agX⟩ := hen hka
    have hla := heap_lt' hka
    obtain ⟨⟨b0, b1⟩, ⟨bg0, bg1⟩, hlb⟩ := duo hkb
    obtain ⟨⟨z0, z1, z2, z3, z4, z5, z6, z7, z8, z9, zX⟩, zg0, zg1, zg2, zg3, zg4, zg5, zg6, zg7, zg8, zg9, zgX⟩ := hen hkz
    have hlz := heap_lt' hkz
    clear hkx hka hkb hkz c1 c2 c3 e1 hb hs hb2
    clear hE
    go_enter Tryz.func164, Tryz.ntmps164
    go_wp2_with fail
    rw [← hwa, ← hwb]
    clear hwa q2 hwb
    go_region
    go_wp2_with fail
    refine bodyPost_ret (v := .tuple #[.agg #[.int .i64 0, .int .i64 0, .string ⟨#[]⟩, .string ⟨#[]⟩, .int .i64 0, .slice none 0 0, .int .i64 0, .int .i64 0, .int .i64 0, .int .i64 0, .int .i64 0], .int .i64 0, .agg #[.int .i64 E, .int .i64 F]]) (by simp [results, Tryz.results164, go_sem, a0, a1, a2, a3, a4, a5, a6, a7, a8, a9, aX, b0, b1]) rfl ⟨rfl, ?_⟩
    refine bl_drew ?_
    repeat (refine bl_put ?_ (by omega))
    exact HB2.out

set_option maxRecDepth 8000 in
set_option maxHeartbeats 2000000 in
theorem newReader_any (w : World) (R0 : Nat) (S : Value) (ts : List RT) (k o : Int) (h : Toks w R0 S ts) (hops : OpsIn w) :
    Calls Tryz.prog 163 #[S, .int .i64 k, .int .i64 o] w fun e w' => ∃ R M1 M2 M3, e = .returned (.pointer (some ⟨R, 0, none⟩)) ∧ w.heap.size ≤ R ∧ Rs w' R M1 M2 M3 S ts ⟨⟨k, 0, 0⟩, clamp o⟩ ∧ Below w.heap.size w w' := by
  obtain ⟨p, n, c, rfl⟩ := h.slice
  have HT := Lib.hid (h.re (Nat.le_refl _))
  obtain ⟨gt, gfr, hg⟩ := hops
  have HO := Lib.hid hg
  clear h hg
  go_enter Tryz.func163, Tryz.ntmps163
  go_wp2_with fail
  refine (newNested_any _ p n c k o).mono ?_
  rintro e w1 ⟨rfl, hb1⟩
  have HB1 := Lib.hid hb1
  clear hb1
  go_wp2_with fail
  refine (stepsByKind_any _ w1.heap.size).mono ?_
  rintro e w2 ⟨rfl, rfl⟩
  go_wp2_with fail
  refine (stepsByWord_any _).mono ?_
  rintro e w2 ⟨rfl, rfl⟩
  go_wp2_with fail
  refine (stepsBySuffix_any _).mono ?_
  rintro e w2 ⟨rfl, rfl⟩
  go_wp2_with fail
  obtain ⟨o1, ho1⟩ : ∃ o1 : Obj, o1 = .cells #[.slice p n c, .int .i64 k, .int .i64 0, .int .i64 0, .int .i64 (min (max o 0) 50), .map (some (w1.heap.size + 1)), .map (some (w1.heap.size + 1 + 1)), .map (some (w1.heap.size + 1 + 1 + 1))] 203 := ⟨_, rfl⟩
  rw [← ho1]
  have hR : ∀ (a b d : Obj), (((w1.alloc a).alloc b).alloc d).heap.size = w1.heap.size + 1 + 1 + 1 := fun a b d => by simp only [size_alloc]
  have hb4 : Below w1.heap.size w1 ((((w1.alloc o1).alloc (.map (mapKind w1.heap.size) 4)).alloc (.map mapWord 6)).alloc (.map mapSuffix 2)) :=
    ((((Below.refl _ _).alloc (Nat.le_refl _) _).alloc (by rw [size_alloc]; omega) _).alloc (by simp only [size_alloc]; omega) _).alloc (by simp only [size_alloc]; omega) _
  have hw := heap_lt' HO.out
  have hs1 := HB1.out.size
  refine bodyPost_ret (v := .pointer (some ⟨w1.heap.size, 0, none⟩)) (by simp [results, Tryz.results163, go_sem]) rfl ⟨w1.heap.size, w1.heap.size + 1, w1.heap.size + 1 + 1, w1.heap.size + 1 + 1 + 1, rfl, hs1, ?_, below_seq HB1.out hb4 hs1⟩
  have k1 := heap_alloc_new (w1.alloc o1) (.map (mapKind w1.heap.size) 4)
  have k2 := heap_alloc_new ((w1.alloc o1).alloc (.map (mapKind w1.heap.size) 4)) (.map mapWord 6)
  have k3 := heap_alloc_new (((w1.alloc o1).alloc (.map (mapKind w1.heap.size) 4)).alloc (.map mapWord 6)) (.map mapSuffix 2)
  simp only [size_alloc] at k1 k2 k3
  refine ⟨⟨?_, ((HT.out.below HB1.out).re (Nat.le_refl _)).below hb4⟩, alloc_box _ (alloc_box _ k1), alloc_box _ k2, k3, by omega, by omega, by omega, ⟨gt, gfr, (hb4.block _ (by omega)).trans ((HB1.out.block _ hw).trans HO.out)⟩, by omega⟩
  have k0 := alloc_box (.map mapSuffix 2) (alloc_box (.map mapWord 6) (alloc_box (.map (mapKind w1.heap.size) 4) (heap_alloc_new w1 o1)))
  rw [k0, ho1]
  rfl

theorem below_gr {B R : Nat} {w w1 w2 : World} (h : Below B w w1) (hg : Gr R w1 w2) (hR : B ≤ R) (hB : B ≤ w1.heap.size) : Below B w w2 :=
  ⟨hg.os.trans h.os, hg.tape.trans h.tape, hg.output.trans h.output, Nat.le_trans h.size hg.size, fun i hi => (hg.block i (by omega) (by omega)).trans (h.block i hi)⟩
theorem bl_put11 {w w1 : World} (h : Below w.heap.size w w1) {N : Nat} (hN : w.heap.size ≤ N) {c0 c1 c2 c3 c4 c5 c6 c7 c8 c9 c10 : Value} : Below w.heap.size w (((((((((((w1.setCell ⟨N, 0, none⟩ c0).setCell ⟨N, 1, none⟩ c1).setCell ⟨N, 2, none⟩ c2).setCell ⟨N, 3, none⟩ c3).setCell ⟨N, 4, none⟩ c4).setCell ⟨N, 5, none⟩ c5).setCell ⟨N, 6, none⟩ c6).setCell ⟨N, 7, none⟩ c7).setCell ⟨N, 8, none⟩ c8).setCell ⟨N, 9, none⟩ c9).setCell ⟨N, 10, none⟩ c10) := (bl_put (bl_put (bl_put (bl_put (bl_put (bl_put (bl_put (bl_put (bl_put (bl_put (bl_put h hN) hN) hN) hN) hN) hN) hN) hN) hN) hN) hN)

set_option maxRecDepth 8000 in
set_option maxHeartbeats 4000000 in
theorem parse_any (w : World) (R0 : Nat) (S : Value) (ts : List RT) (k o : Int) (h : Toks w R0 S ts) (hops : OpsIn w) (f : Nat) (hf : f ≤ 1000000000) (x : Ex × Int × Int × Int) (hx : parse ts f k o = some x) :
    Calls Tryz.prog 157 #[S, .int .i64 k, .int .i64 o] w fun e w' => ∃ (kind num : Int) (name ofn : List UInt8) (dims : Int) (p : Option Addr) (n c : Nat) (at_ b r d ref : Int),
      e = .returned (.tuple #[.agg #[.int .i64 kind, .int .i64 num, .string (cbs name), .string (cbs ofn), .int .i64 dims, .slice p n c, .int .i64 at_, .int .i64 b, .int .i64 r, .int .i64 d, .int .i64 ref], .int .i64 x.2.1, .agg #[.int .i64 x.2.2.1, .int .i64 x.2.2.2]]) ∧
      Is w' w.heap.size x.1 (exCells kind num name ofn dims (.slice p n c) at_ b r d ref) ∧ Below w.heap.size w w' := by
  obtain ⟨p, n, c, rfl⟩ := h.slice
  obtain ⟨e0, s1, he, rfl⟩ : ∃ e0 s1, (run ts f).1 1 ⟨⟨k, 0, 0⟩, clamp o⟩ = some (e0, s1) ∧ x = exEnd e0 s1.c := by
    unfold parse at hx
    split at hx
    · cases hx
    · rename_i e0 s1 he
      exact ⟨e0, s1, he, by simpa using hx.symm⟩
  obtain ⟨w0, hw0⟩ : ∃ w0, w0 = (w.alloc (.cells #[.int .i64 0, .int .i64 0, .string ⟨#[]⟩, .string ⟨#[]⟩, .int .i64 0, .slice none 0 0, .int .i64 0, .int .i64 0, .int .i64 0, .int .i64 0, .int .i64 0] 106)).alloc (.cells #[.int .i64 0, .int .i64 0] 29) := ⟨_, rfl⟩
  have hb0 : Below w.heap.size w w0 := by rw [hw0]; exact ((Below.refl _ _).alloc (Nat.le_refl _) _).alloc (by rw [size_alloc]; omega) _
  have hk1 : w0.heap[w.heap.size]? = some (.cells #[.int .i64 0, .int .i64 0, .string ⟨#[]⟩, .string ⟨#[]⟩, .int .i64 0, .slice none 0 0, .int .i64 0, .int .i64 0, .int .i64 0, .int .i64 0, .int .i64 0] 106 (0, 0)) := by rw [hw0]; exact alloc_box _ (heap_alloc_new w _)
  have hk2 : w0.heap[w.heap.size + 1]? = some (.cells #[.int .i64 0, .int .i64 0] 29 (0, 0)) := by rw [hw0]; have := heap_alloc_new (w.alloc (.cells #[.int .i64 0, .int .i64 0, .string ⟨#[]⟩, .string ⟨#[]⟩, .int .i64 0, .slice none 0 0, .int .i64 0, .int .i64 0, .int .i64 0, .int .i64 0, .int .i64 0] 106)) (.cells #[.int .i64 0, .int .i64 0] 29); rw [size_alloc] at this; exact this
  have hs0 : w0.heap.size = w.heap.size + 2 := by rw [hw0]; simp only [size_alloc]
  have HRUN := Lib.hid ((run_ok ts f hf).1)
  have HE := Lib.hid he
  have HT := Lib.hid ((h.below hb0))
  have HOP : Hid (OpsIn w0) := by obtain ⟨gt, gfr, hg⟩ := hops; exact ⟨gt, gfr, (hb0.block _ (heap_lt' hg)).trans hg⟩
  have HB0 := Lib.hid hb0
  have HK1 := Lib.hid hk1
  have HK2 := Lib.hid hk2
  have HS0 := Lib.hid hs0
  clear h hops he hx hb0 hk1 hk2 hs0
  go_enter Tryz.func157, Tryz.ntmps157
  go_wp2_with fail
  rw [← hw0]
  refine (newReader_any _ R0 _ ts k o HT.out HOP.out).mono ?_
  rintro e w1 ⟨R, M1, M2, M3, rfl, hR, hr, hb⟩
  have HR := Lib.hid hr
  have HB1 := Lib.hid hb
  have HRR := Lib.hid hR
  clear hr hb hR hw0
  obtain ⟨⟨k2, E2, F2⟩, o2⟩ := s1
  by_cases hE : E2 = 0
  · subst hE
    go_wp2_with fail
    go_region_with (first
      | (go_at_call 165; refine (expression_any _ R M1 M2 M3 _ ts _ (HR.out.go (Below.refl _ _).drew) (run ts f).1 HRUN.out _ HE.out).mono ?_; rintro e w2 ⟨qk, qn, qs, qo, qd, qp, ql, qc, qa, qb, qr, qe, qf, rfl, hi, hr, hg⟩; have HR2 := Lib.hid hr; have HB2 := Lib.hid (below_gr HB1.out ((Gr.of (Below.refl w1.heap.size w1).drew).trans hg) HRR.out HB1.out.size); have HI := Lib.hid hi; have HZ : Hid (w1.heap.size ≤ w2.heap.size) := hg.size; have HS1 : Hid (w0.heap.size ≤ w1.heap.size) := HB1.out.size; clear hr hg hi)
      | (go_at_call 164; refine (resultEx_any _ R _ _ _ ts _ HR2.out.cu qk qn (cbs qs) (cbs qo) qd qp ql qc qa qb qr qe qf).mono ?_; rw [show ends ⟨k2, 0, F2⟩ = (k2, 0, 0) from rfl]; dsimp only; rw [if_pos rfl]; rintro e w3 ⟨rfl, hb3⟩; have HB3 := Lib.hid (below_seq HB2.out hb3 (Nat.le_trans HS1.out HZ.out)); have HI3 := Lib.hid (HI.out.below hb3); have hkd := (HB3.out.block _ (heap_lt' HK1.out)).trans HK1.out; obtain ⟨⟨d0, d1, d2, d3, d4, d5, d6, d7, d8, d9, dX⟩, g0, g1, g2, g3, g4, g5, g6, g7, g8, g9, gX⟩ := hen hkd; have hld := heap_lt' hkd; obtain ⟨⟨b0, b1⟩, ⟨h0, h1⟩, hlb⟩ := duo ((HB3.out.block _ (heap_lt' HK2.out)).trans HK2.out); clear hkd hb3))
    all_goals go_wp2_with fail
    have hx : exEnd e0 ⟨k2, 0, F2⟩ = (e0, k2, 0, 0) := if_pos rfl
    have hbw : Below w.heap.size w w3 := below_seq HB0.out HB3.out (by have := HS0.out; omega)
    have hN1 : w.heap.size < w1.heap.size := by have := HS0.out; have := HS1.out; omega
    have hN2 : w.heap.size + 1 < w1.heap.size := by have := HS0.out; have := HS1.out; omega
    exact bodyPost_ret (v := .tuple #[.agg #[.int .i64 qk, .int .i64 qn, .string (cbs qs), .string (cbs qo), .int .i64 qd, .slice qp ql qc, .int .i64 qa, .int .i64 qb, .int .i64 qr, .int .i64 qe, .int .i64 qf], .int .i64 k2, .agg #[.int .i64 0, .int .i64 0]]) (by simp [results, Tryz.results157, go_sem, d0, d1, d2, d3, d4, d5, d6, d7, d8, d9, dX, b0, b1]) rfl ⟨_, _, _, _, _, _, _, _, _, _, _, _, _, by rw [hx], by rw [hx]; exact Is.lower (Nat.le_of_lt hN1) _ (((HI3.out.put11 (N := w.heap.size) hN1).set (p := ⟨w.heap.size + 1, 0, none⟩) hN2 _).set (p := ⟨w.heap.size + 1, 1, none⟩) hN2 _), bl_put (bl_put (bl_put11 hbw (Nat.le_refl _)) (Nat.le_succ _)) (Nat.le_succ _)⟩
  · have HE2 := Lib.hid hE
    clear hE
    go_wp2_with fail
    go_region_with (first
      | (go_at_call 165; refine (expression_any _ R M1 M2 M3 _ ts _ (HR.out.go (Below.refl _ _).drew) (run ts f).1 HRUN.out _ HE.out).mono ?_; rintro e w2 ⟨qk, qn, qs, qo, qd, qp, ql, qc, qa, qb, qr, qe, qf, rfl, hi, hr, hg⟩; have HR2 := Lib.hid hr; have HB2 := Lib.hid (below_gr HB1.out ((Gr.of (Below.refl w1.heap.size w1).drew).trans hg) HRR.out HB1.out.size); have HI := Lib.hid hi; have HZ : Hid (w1.heap.size ≤ w2.heap.size) := hg.size; have HS1 : Hid (w0.heap.size ≤ w1.heap.size) := HB1.out.size; clear hr hg hi)
      | (go_at_call 164; refine (resultEx_any _ R _ _ _ ts _ HR2.out.cu qk qn (cbs qs) (cbs qo) qd qp ql qc qa qb qr qe qf).mono ?_; rw [show ends ⟨k2, E2, F2⟩ = (0, E2, F2) from if_neg HE2.out]; dsimp only; rw [if_neg HE2.out]; rintro e w3 ⟨rfl, hb3⟩; have HB3 := Lib.hid (below_seq HB2.out hb3 (Nat.le_trans HS1.out HZ.out)); have HI3 := Lib.hid (HI.out.below hb3); have hkd := (HB3.out.block _ (heap_lt' HK1.out)).trans HK1.out; obtain ⟨⟨d0, d1, d2, d3, d4, d5, d6, d7, d8, d9, dX⟩, g0, g1, g2, g3, g4, g5, g6, g7, g8, g9, gX⟩ := hen hkd; have hld := heap_lt' hkd; obtain ⟨⟨b0, b1⟩, ⟨h0, h1⟩, hlb⟩ := duo ((HB3.out.block _ (heap_lt' HK2.out)).trans HK2.out); clear hkd hb3))
    all_goals go_wp2_with fail
    have hx : exEnd e0 ⟨k2, E2, F2⟩ = (Ex.zero, 0, E2, F2) := if_neg HE2.out
    have hbw : Below w.heap.size w w3 := below_seq HB0.out HB3.out (by have := HS0.out; omega)
    have hN1 : w.heap.size < w1.heap.size := by have := HS0.out; have := HS1.out; omega
    have hN2 : w.heap.size + 1 < w1.heap.size := by have := HS0.out; have := HS1.out; omega
    exact bodyPost_ret (v := .tuple #[.agg #[.int .i64 0, .int .i64 0, .string ⟨#[]⟩, .string ⟨#[]⟩, .int .i64 0, .slice none 0 0, .int .i64 0, .int .i64 0, .int .i64 0, .int .i64 0, .int .i64 0], .int .i64 0, .agg #[.int .i64 E2, .int .i64 F2]]) (by simp [results, Tryz.results157, go_sem, d0, d1, d2, d3, d4, d5, d6, d7, d8, d9, dX, b0, b1]) rfl ⟨0, 0, [], [], 0, none, 0, 0, 0, 0, 0, 0, 0, by rw [hx]; rfl, by rw [hx]; exact Is.zero, bl_put (bl_put (bl_put11 hbw (Nat.le_refl _)) (Nat.le_succ _)) (Nat.le_succ _)⟩
end Go.Proofs.YtnadaedibicaaaaGreatDoor
