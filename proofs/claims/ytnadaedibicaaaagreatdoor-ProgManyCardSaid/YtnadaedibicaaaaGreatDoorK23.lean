/-
  The contracts of the project's reader: what stands behind a first one; one with signs in front.
-/
import Derived.Test.YtnadaedibicaaaaGreatDoorK20
import Derived.Test.YtnadaedibicaaaaGreatDoorK19
import Derived.Test.YtnadaedibicaaaaGreatDoorK22
namespace Go.Proofs.YtnadaedibicaaaaGreatDoor
open Go.RowKit
open Px (RT tokAt)
open Pe

theorem suf_zero {ts : List RT} {rec : Nat → St → Out} {e : Ex} {s : St} {x : Ex × St} (h : sufLoop ts rec 0 e s = some x) : False := by
  rw [sufLoop] at h; cases h
theorem suf_end {ts : List RT} {rec : Nat → St → Out} {g : Nat} {e : Ex} {s : St} {x : Ex × St} (h : sufLoop ts rec (g + 1) e s = some x) (hk : (peek ts s.c).kind ≠ 4) : x = (e, s) := by
  rw [sufLoop, if_neg hk] at h
  simpa using h.symm
theorem suf_other {ts : List RT} {rec : Nat → St → Out} {g : Nat} {e : Ex} {s : St} {x : Ex × St} (h : sufLoop ts rec (g + 1) e s = some x) (hk : (peek ts s.c).kind = 4) (h1 : (peek ts s.c).text ≠ [46]) (h2 : (peek ts s.c).text ≠ [91]) : x = (e, s) := by
  rw [sufLoop, if_pos hk, if_neg h1, if_neg h2] at h
  simpa using h.symm
theorem suf_dot {ts : List RT} {rec : Nat → St → Out} {g : Nat} {e : Ex} {s : St} {x : Ex × St} (h : sufLoop ts rec (g + 1) e s = some x) (hk : (peek ts s.c).kind = 4) (h1 : (peek ts s.c).text = [46]) : sufLoop ts rec g (field ts e s).1 (field ts e s).2 = some x := by
  rw [sufLoop, if_pos hk, if_pos h1] at h
  exact h
theorem suf_item {ts : List RT} {rec : Nat → St → Out} {g : Nat} {e : Ex} {s : St} {x : Ex × St} (h : sufLoop ts rec (g + 1) e s = some x) (hk : (peek ts s.c).kind = 4) (h1 : (peek ts s.c).text = [91]) : ∃ e2 s2, item ts rec e s = some (e2, s2) ∧ sufLoop ts rec g e2 s2 = some x := by
  rw [sufLoop, if_pos hk, if_neg (by rw [h1]; decide), if_pos h1] at h
  split at h
  · cases h
  · rename_i e2 s2 he
    exact ⟨e2, s2, he, h⟩
theorem suf_at0 {l : List UInt8} (h : l = [46]) {w : World} {M : Nat} (hb : w.heap[M]? = some (.map mapSuffix 2)) :
    (Instr.lookup 201 (.map (some M)) (.string (cbs l)) true).run Tryz.prog w = .ok (.tuple #[.func (.func 186) #[] #[], .bool true]) w := by
  subst h
  exact suffix_hit0 hb
theorem suf_at1 {l : List UInt8} (h : l = [91]) {w : World} {M : Nat} (hb : w.heap[M]? = some (.map mapSuffix 2)) :
    (Instr.lookup 201 (.map (some M)) (.string (cbs l)) true).run Tryz.prog w = .ok (.tuple #[.func (.func 187) #[] #[], .bool true]) w := by
  subst h
  exact suffix_hit1 hb
theorem pf_some {ts : List RT} {rec : Nat → St → Out} {g : Nat} {s : St} {x : Ex × St} (h : postfix_ ts rec g s = some x) : ∃ e s2, primary ts rec g s = some (e, s2) ∧ sufLoop ts rec g e s2 = some x := by
  unfold postfix_ at h
  split at h
  · cases h
  · rename_i e s2 he
    exact ⟨e, s2, he, h⟩

set_option maxRecDepth 8000 in
set_option maxHeartbeats 2000000 in
theorem postfix_any (w : World) (R M1 M2 M3 : Nat) (S : Value) (ts : List RT) (s : St) (h : Rs w R M1 M2 M3 S ts s) (rec : Nat → St → Out) (hrec : RecOk ts rec) (gg : Nat) (hgg : gg ≤ 1000000000) (x : Ex × St) (hx : postfix_ ts rec gg s = some x) :
    Calls Tryz.prog 195 #[.pointer (some ⟨R, 0, none⟩)] w (ExPost w.heap.size w R M1 M2 M3 S ts x) := by
  obtain ⟨e0, s1, he, hx⟩ := pf_some hx
  have HX := Lib.hid hx
  have HE := Lib.hid (fun w1 hh => primary_any w1 R M1 M2 M3 S ts s hh rec hrec gg hgg (e0, s1) he)
  have HREC := Lib.hid hrec
  clear hrec hx he hgg
  have hb0 : Below w.heap.size w (w.alloc (.cells #[.int .i64 0, .int .i64 0, .string ⟨#[]⟩, .string ⟨#[]⟩, .int .i64 0, .slice none 0 0, .int .i64 0, .int .i64 0, .int .i64 0, .int .i64 0, .int .i64 0] 106)) := (Below.refl w.heap.size w).alloc (Nat.le_refl _) _
  have hlt := h.lt
  have HH := Lib.hid h
  have HR := Lib.hid (h.go hb0)
  have HG := Lib.hid (Gr.refl R (w.alloc (.cells #[.int .i64 0, .int .i64 0, .string ⟨#[]⟩, .string ⟨#[]⟩, .int .i64 0, .slice none 0 0, .int .i64 0, .int .i64 0, .int .i64 0, .int .i64 0, .int .i64 0] 106)))
  clear h hb0
  go_enter Tryz.func195, Tryz.ntmps195
  go_wp2_with fail
  refine (HE.out _ HR.out).mono ?_
  rintro e w1 ⟨qk, qn, qs, qo, qd, qp, ql, qc, qa, qb, qr, qe, qf, rfl, hi, hr, hg⟩
  have HN1 : Hid (w.heap.size < w1.heap.size) := (Nat.lt_of_lt_of_le (by rw [size_alloc]; exact Nat.lt_succ_self _ : w.heap.size < (w.alloc (.cells #[.int .i64 0, .int .i64 0, .string ⟨#[]⟩, .string ⟨#[]⟩, .int .i64 0, .slice none 0 0, .int .i64 0, .int .i64 0, .int .i64 0, .int .i64 0, .int .i64 0] 106)).heap.size) (HG.out.trans hg).size)
  have HO := Lib.hid (show Hold w (w1.alloc (.cells #[.int .i64 qk, .int .i64 qn, .string (cbs qs), .string (cbs qo), .int .i64 qd, .slice qp ql qc, .int .i64 qa, .int .i64 qb, .int .i64 qr, .int .i64 qe, .int .i64 qf] 106)) R M1 M2 M3 S ts w1.heap.size qk qn qs qo qd qp ql qc qa qb qr qe qf e0 s1 from
    ⟨hr.go ((Below.refl _ _).alloc (Nat.le_refl _) _), (HG.out.trans hg).alloc _, heap_alloc_new w1 _, (IsBut.top hi (by rw [size_alloc]; exact Nat.le_refl _)).alloc _, HN1.out⟩)
  have HR0 := HR
  clear hi hr hg HR HG HE
  go_wp2_with fail
  go_loopg [] gg (fun m wr => ∃ e s4 kind num name ofn dims p ln c at_ b r d ref, Hold w wr R M1 M2 M3 S ts w1.heap.size kind num name ofn dims p ln c at_ b r d ref e s4 ∧ sufLoop ts rec m e s4 = some x)
  case atStart => exact ⟨_, _, _, _, _, _, _, _, _, _, _, _, _, _, _, HO.out, HX.out⟩
  case round =>
    obtain ⟨e, s4, kind, num, name, ofn, dims, p, ln, c, at_, b, r, d, ref, ho, hx⟩ := hrel
    have HO1 := Lib.hid ho
    have HX1 := Lib.hid hx
    clear ho hx HO HX
    cases gk with
    | zero => exact (suf_zero HX1.out).elim
    | succ m =>
      have HPK := Lib.hid (fun w1 hh => peek_any w1 R 203 S [.int .i64 s4.o, .map (some M1), .map (some M2), .map (some M3)] ts s4.c hh)
      obtain ⟨t, ht⟩ : ∃ t, peek ts s4.c = t := ⟨_, rfl⟩
      have HT := Lib.hid ht
      rw [ht] at HPK
      unfold tokW at HPK
      have hfd0 : ∀ w1 : World, (Instr.field 66 (.agg #[.int .i64 t.kind, .string (cbs t.text), .int .i64 t.num, .int .i64 t.at_]) 0).run Tryz.prog w1 = .ok (.int .i64 t.kind) w1 := fun _ => by kernel_rfl
      have hfd1 : ∀ w1 : World, (Instr.field 66 (.agg #[.int .i64 t.kind, .string (cbs t.text), .int .i64 t.num, .int .i64 t.at_]) 1).run Tryz.prog w1 = .ok (.string (cbs t.text)) w1 := fun _ => by kernel_rfl
      clear ht
      cases hk : (t.kind == 4) with
      | false =>
        have hx := suf_end HX1.out (by rw [HT.out]; simpa using hk)
        subst hx
        go_wp2_with fail
        refine (HPK.out _ HO1.out.rs.cu).mono ?_
        rintro e' w2 ⟨rfl, hb⟩
        have HO2 := Lib.hid (HO1.out.go hlt (HO1.out.rs.go hb) (Gr.of hb))
        clear hb HO1
        obtain ⟨⟨x0, x1, x2, x3, x4, x5, x6, x7, x8, x9, xX⟩, y0, y1, y2, y3, y4, y5, y6, y7, y8, y9, yX⟩ := hen HO2.out.box
        have hlb := heap_lt' HO2.out.box
        have hk := mine HO2.out.gr hlt
        obtain ⟨⟨d0, d1, d2, d3, d4, d5, d6, d7, d8, d9, dX⟩, g0, g1, g2, g3, g4, g5, g6, g7, g8, g9, gX⟩ := hen hk
        have hl := heap_lt' hk
        have hnb := Nat.ne_of_lt HO2.out.lt
        have hnb2 := Ne.symm hnb
        clear hk
        go_wp2_with fail
        have hn := (Nw.start ((Gr.alloc (Gr.refl R w) _).trans HO2.out.gr)).put11 (B := w.heap.size) (Nat.le_refl _) (c0 := .int .i64 kind) (c1 := .int .i64 num) (c2 := .string (cbs name)) (c3 := .string (cbs ofn)) (c4 := .int .i64 dims) (c5 := .slice p ln c) (c6 := .int .i64 at_) (c7 := .int .i64 b) (c8 := .int .i64 r) (c9 := .int .i64 d) (c10 := .int .i64 ref)
        exact bodyPost_ret (v := .agg #[.int .i64 kind, .int .i64 num, .string (cbs name), .string (cbs ofn), .int .i64 dims, .slice p ln c, .int .i64 at_, .int .i64 b, .int .i64 r, .int .i64 d, .int .i64 ref]) (by simp [results, Tryz.results195, go_sem, d0, d1, d2, d3, d4, d5, d6, d7, d8, d9, dX]) rfl ⟨_, _, _, _, _, _, _, _, _, _, _, _, _, rfl, Is.lower (Nat.le_succ _) _ (HO2.out.is.now.put11 (N := w.heap.size) (Nat.lt_succ_self _)), HH.out.fin HO2.out.rs hn, hn.gr⟩
      | true =>
        have HK4 := Lib.hid (show (peek ts s4.c).kind = 4 from by rw [HT.out]; simpa using hk)
        go_wp2_with fail
        refine (HPK.out _ HO1.out.rs.cu).mono ?_
        rintro e' w2 ⟨rfl, hb⟩
        have HO2 := Lib.hid (HO1.out.go hlt (HO1.out.rs.go hb) (Gr.of hb))
        clear hb HO1
        obtain ⟨o4, o5, o6, o7, f4⟩ := HO2.out.rs.open_
        clear o4 o5 o6 f4
        have HRD := Lib.hid (HO2.out.rs.go (Below.refl _ _).drew)
        have HEB0 : Hid (w1.heap.size < w2.heap.size) := heap_lt' HO2.out.box
        by_cases h1 : t.text = [46]
        · have H5 := Lib.hid (suf_dot HX1.out HK4.out (by rw [HT.out]; exact h1))
          have H1 := Lib.hid h1
          clear h1 HX1
          go_wp2_with fail
          go_region_held3 (fun w' => w'.cell? ⟨R, 7, none⟩ = some (.map (some M3))) (first | exact o7 | exact oo) (first
            | (go_at_call 44; (with_reducible refine Calls.mono (HPK.out _ HRD.out.cu) ?_); rintro e' w3 ⟨rfl, hb⟩; have HO3 := Lib.hid (HO2.out.go hlt (HRD.out.go hb) ((Gr.of (Below.refl _ _).drew).trans (Gr.of hb))); clear hb; have oo := HO3.out.rs.open_; replace oo := oo.2.2.2.1; have hlk := suf_at0 H1.out HO3.out.rs.m3))
          clear HO2 HRD oo o7
          obtain ⟨⟨x0, x1, x2, x3, x4, x5, x6, x7, x8, x9, xX⟩, y0, y1, y2, y3, y4, y5, y6, y7, y8, y9, yX⟩ := hen HO3.out.box
          have hlb := heap_lt' HO3.out.box
          have hk := mine HO3.out.gr hlt
          obtain ⟨⟨d0, d1, d2, d3, d4, d5, d6, d7, d8, d9, dX⟩, g0, g1, g2, g3, g4, g5, g6, g7, g8, g9, gX⟩ := hen hk
          have hl := heap_lt' hk
          have hnb := Nat.ne_of_lt HO3.out.lt
          have hnb2 := Ne.symm hnb
          clear hk
          go_wp2_with fail
          have HB1 : w.heap.size + 1 ≤ w3.heap.size := Nat.le_of_lt (Nat.lt_of_le_of_lt (show w.heap.size + 1 ≤ w1.heap.size from HN1.out) (heap_lt' HO3.out.box))
          have HGB : ∀ q, some w1.heap.size = some q → q < w3.heap.size := fun q hq => by injection hq with hq; rw [← hq]; exact heap_lt' HO3.out.box
          refine (field_any w3 R M1 M2 M3 S ts s4 HO3.out.rs (w.heap.size + 1) (some w1.heap.size) HGB e kind num name ofn dims p ln c at_ b r d ref (by omega) HB1 HO3.out.is).mono ?_
          clear HB1 HGB
          rintro e' w4 ⟨zk, zn, zs, zo, zd, zp, zl, zc, za, zb, zr, ze, zf, rfl, hi, hr, hg⟩
          have HO4 := Lib.hid (HO3.out.go hlt hr hg)
          have HIZ := Lib.hid hi
          clear x0 x1 x2 x3 x4 x5 x6 x7 x8 x9 xX y0 y1 y2 y3 y4 y5 y6 y7 y8 y9 yX d0 d1 d2 d3 d4 d5 d6 d7 d8 d9 dX g0 g1 g2 g3 g4 g5 g6 g7 g8 g9 gX hlb hl hnb hnb2
          clear hi hr hg HO3
          obtain ⟨⟨x0, x1, x2, x3, x4, x5, x6, x7, x8, x9, xX⟩, y0, y1, y2, y3, y4, y5, y6, y7, y8, y9, yX⟩ := hen HO4.out.box
          have hlb := heap_lt' HO4.out.box
          have hk := mine HO4.out.gr hlt
          obtain ⟨⟨d0, d1, d2, d3, d4, d5, d6, d7, d8, d9, dX⟩, g0, g1, g2, g3, g4, g5, g6, g7, g8, g9, gX⟩ := hen hk
          have hl := heap_lt' hk
          have hnb := Nat.ne_of_lt HO4.out.lt
          have hnb2 := Ne.symm hnb
          clear hk
          go_wp2_with fail
          go_roundg m
          case measure => omega
          case rel =>
            have hEL : w.heap.size < w1.heap.size := HN1.out
            have hn := (Nw.start HO4.out.gr).put11 (B := w1.heap.size) (by rw [size_alloc]; exact hEL) (c0 := .int .i64 zk) (c1 := .int .i64 zn) (c2 := .string (cbs zs)) (c3 := .string (cbs zo)) (c4 := .int .i64 zd) (c5 := .slice zp zl zc) (c6 := .int .i64 za) (c7 := .int .i64 zb) (c8 := .int .i64 zr) (c9 := .int .i64 ze) (c10 := .int .i64 zf)
            exact ⟨_, _, _, _, _, _, _, _, _, _, _, _, _, _, _, ⟨HR0.out.fin HO4.out.rs hn, hn.gr, row11 HO4.out.box, HIZ.out.put11, hEL⟩, H5.out⟩
        · by_cases h2 : t.text = [91]
          · obtain ⟨e2, s5, hit, h5⟩ := suf_item HX1.out HK4.out (by rw [HT.out]; exact h2)
            have H1 := Lib.hid h2
            have HIT := Lib.hid hit
            have H5 := Lib.hid h5
            clear h1 h2 HX1 hit h5
            go_wp2_with fail
            go_region_held3 (fun w' => w'.cell? ⟨R, 7, none⟩ = some (.map (some M3))) (first | exact o7 | exact oo) (first
              | (go_at_call 44; (with_reducible refine Calls.mono (HPK.out _ HRD.out.cu) ?_); rintro e' w3 ⟨rfl, hb⟩; have HO3 := Lib.hid (HO2.out.go hlt (HRD.out.go hb) ((Gr.of (Below.refl _ _).drew).trans (Gr.of hb))); clear hb; have oo := HO3.out.rs.open_; replace oo := oo.2.2.2.1; have hlk := suf_at1 H1.out HO3.out.rs.m3))
            clear HO2 HRD oo o7
            obtain ⟨⟨x0, x1, x2, x3, x4, x5, x6, x7, x8, x9, xX⟩, y0, y1, y2, y3, y4, y5, y6, y7, y8, y9, yX⟩ := hen HO3.out.box
            have hlb := heap_lt' HO3.out.box
            have hk := mine HO3.out.gr hlt
            obtain ⟨⟨d0, d1, d2, d3, d4, d5, d6, d7, d8, d9, dX⟩, g0, g1, g2, g3, g4, g5, g6, g7, g8, g9, gX⟩ := hen hk
            have hl := heap_lt' hk
            have hnb := Nat.ne_of_lt HO3.out.lt
            have hnb2 := Ne.symm hnb
            clear hk
            go_wp2_with fail
            have HB1 : w.heap.size + 1 ≤ w3.heap.size := Nat.le_of_lt (Nat.lt_of_le_of_lt (show w.heap.size + 1 ≤ w1.heap.size from HN1.out) (heap_lt' HO3.out.box))
            have HGB : ∀ q, some w1.heap.size = some q → q < w3.heap.size := fun q hq => by injection hq with hq; rw [← hq]; exact heap_lt' HO3.out.box
            refine (item_any w3 R M1 M2 M3 S ts s4 HO3.out.rs rec HREC.out (w.heap.size + 1) (some w1.heap.size) HGB e kind num name ofn dims p ln c at_ b r d ref (by omega) HB1 HO3.out.is (e2, s5) HIT.out).mono ?_
            clear HB1 HGB
            rintro e' w4 ⟨zk, zn, zs, zo, zd, zp, zl, zc, za, zb, zr, ze, zf, rfl, hi, hr, hg⟩
            have HO4 := Lib.hid (HO3.out.go hlt hr hg)
            have HIZ := Lib.hid hi
            clear x0 x1 x2 x3 x4 x5 x6 x7 x8 x9 xX y0 y1 y2 y3 y4 y5 y6 y7 y8 y9 yX d0 d1 d2 d3 d4 d5 d6 d7 d8 d9 dX g0 g1 g2 g3 g4 g5 g6 g7 g8 g9 gX hlb hl hnb hnb2
            clear hi hr hg HO3
            obtain ⟨⟨x0, x1, x2, x3, x4, x5, x6, x7, x8, x9, xX⟩, y0, y1, y2, y3, y4, y5, y6, y7, y8, y9, yX⟩ := hen HO4.out.box
            have hlb := heap_lt' HO4.out.box
            have hk := mine HO4.out.gr hlt
            obtain ⟨⟨d0, d1, d2, d3, d4, d5, d6, d7, d8, d9, dX⟩, g0, g1, g2, g3, g4, g5, g6, g7, g8, g9, gX⟩ := hen hk
            have hl := heap_lt' hk
            have hnb := Nat.ne_of_lt HO4.out.lt
            have hnb2 := Ne.symm hnb
            clear hk
            go_wp2_with fail
            go_roundg m
            case measure => omega
            case rel =>
              have hEL : w.heap.size < w1.heap.size := HN1.out
              have hn := (Nw.start HO4.out.gr).put11 (B := w1.heap.size) (by rw [size_alloc]; exact hEL) (c0 := .int .i64 zk) (c1 := .int .i64 zn) (c2 := .string (cbs zs)) (c3 := .string (cbs zo)) (c4 := .int .i64 zd) (c5 := .slice zp zl zc) (c6 := .int .i64 za) (c7 := .int .i64 zb) (c8 := .int .i64 zr) (c9 := .int .i64 ze) (c10 := .int .i64 zf)
              exact ⟨_, _, _, _, _, _, _, _, _, _, _, _, _, _, _, ⟨HR0.out.fin HO4.out.rs hn, hn.gr, row11 HO4.out.box, HIZ.out.put11, hEL⟩, H5.out⟩
          · have hx := suf_other HX1.out HK4.out (by rw [HT.out]; exact h1) (by rw [HT.out]; exact h2)
            subst hx
            have H1 := Lib.hid h1
            have H2 := Lib.hid h2
            clear h1 h2
            go_wp2_with fail
            go_region_held3 (fun w' => w'.cell? ⟨R, 7, none⟩ = some (.map (some M3))) (first | exact o7 | exact oo) (first
              | (go_at_call 44; (with_reducible refine Calls.mono (HPK.out _ HRD.out.cu) ?_); rintro e' w3 ⟨rfl, hb⟩; have HO3 := Lib.hid (HO2.out.go hlt (HRD.out.go hb) ((Gr.of (Below.refl _ _).drew).trans (Gr.of hb))); clear hb; have oo := HO3.out.rs.open_; replace oo := oo.2.2.2.1; have hlk := suffix_hit_miss (cbs t.text) (cbs_ne H1.out) (cbs_ne H2.out) HO3.out.rs.m3))
            clear HO2 HRD oo o7
            obtain ⟨⟨x0, x1, x2, x3, x4, x5, x6, x7, x8, x9, xX⟩, y0, y1, y2, y3, y4, y5, y6, y7, y8, y9, yX⟩ := hen HO3.out.box
            have hlb := heap_lt' HO3.out.box
            have hk := mine HO3.out.gr hlt
            obtain ⟨⟨d0, d1, d2, d3, d4, d5, d6, d7, d8, d9, dX⟩, g0, g1, g2, g3, g4, g5, g6, g7, g8, g9, gX⟩ := hen hk
            have hl := heap_lt' hk
            have hnb := Nat.ne_of_lt HO3.out.lt
            have hnb2 := Ne.symm hnb
            clear hk
            go_wp2_with fail
            have hn := (Nw.start ((Gr.alloc (Gr.refl R w) _).trans HO3.out.gr)).put11 (B := w.heap.size) (Nat.le_refl _) (c0 := .int .i64 kind) (c1 := .int .i64 num) (c2 := .string (cbs name)) (c3 := .string (cbs ofn)) (c4 := .int .i64 dims) (c5 := .slice p ln c) (c6 := .int .i64 at_) (c7 := .int .i64 b) (c8 := .int .i64 r) (c9 := .int .i64 d) (c10 := .int .i64 ref)
            exact bodyPost_ret (v := .agg #[.int .i64 kind, .int .i64 num, .string (cbs name), .string (cbs ofn), .int .i64 dims, .slice p ln c, .int .i64 at_, .int .i64 b, .int .i64 r, .int .i64 d, .int .i64 ref]) (by simp [results, Tryz.results195, go_sem, d0, d1, d2, d3, d4, d5, d6, d7, d8, d9, dX]) rfl ⟨_, _, _, _, _, _, _, _, _, _, _, _, _, rfl, Is.lower (Nat.le_succ _) _ (HO3.out.is.now.put11 (N := w.heap.size) (Nat.lt_succ_self _)), HH.out.fin HO3.out.rs hn, hn.gr⟩

set_option maxRecDepth 8000 in
set_option maxHeartbeats 2000000 in
theorem unary_any (w : World) (R M1 M2 M3 : Nat) (S : Value) (ts : List RT) (s : St) (h : Rs w R M1 M2 M3 S ts s) (rec : Nat → St → Out) (hrec : RecOk ts rec) (recU : St → Out) (hU : UnOk ts recU) (gg : Nat) (hgg : gg ≤ 1000000000) (x : Ex × St) (hx : unary ts rec recU gg s = some x) :
    Calls Tryz.prog 188 #[.pointer (some ⟨R, 0, none⟩)] w (ExPost w.heap.size w R M1 M2 M3 S ts x) := by
  have HS := Lib.hid (fun w1 hh => seesSign_any w1 R 203 S [.int .i64 s.o, .map (some M1), .map (some M2), .map (some M3)] ts s.c hh)
  unfold unary at hx
  cases hv1 : sees ts s.c 4 [45] with
  | true =>
    rw [if_pos hv1] at hx
    have HE := Lib.hid (fun w1 hh => prefixed_any w1 R M1 M2 M3 S ts s hh recU hU ⟨#[45]⟩ 12 x hx)
    have HV1 := Lib.hid hv1
    clear hrec hU hgg hx hv1
    have hb0 : Below w.heap.size w (w.alloc (.cells #[.int .i64 0, .int .i64 0, .string ⟨#[]⟩, .string ⟨#[]⟩, .int .i64 0, .slice none 0 0, .int .i64 0, .int .i64 0, .int .i64 0, .int .i64 0, .int .i64 0] 106)) := (Below.refl w.heap.size w).alloc (Nat.le_refl _) _
    have hlt := h.lt
    have HH := Lib.hid h
    have HR := Lib.hid (h.go hb0)
    have HG := Lib.hid (Gr.refl R (w.alloc (.cells #[.int .i64 0, .int .i64 0, .string ⟨#[]⟩, .string ⟨#[]⟩, .int .i64 0, .slice none 0 0, .int .i64 0, .int .i64 0, .int .i64 0, .int .i64 0, .int .i64 0] 106)))
    clear h hb0
    go_enter Tryz.func188, Tryz.ntmps188
    go_wp2_with fail
    refine (HS.out _ HR.out.cu ⟨#[45]⟩).mono ?_
    rintro e w1 ⟨rfl, hb⟩
    have HGx := Lib.hid (HG.out.below hb)
    have HRx := Lib.hid (HR.out.go hb)
    clear HG HR
    have HG := HGx
    have HR := HRx
    clear HGx HRx
    clear hb
    rw [HV1.out]
    go_wp2_with fail
    have hRBq := HR.out.lt
    have hNBq := Nat.lt_of_lt_of_le (by rw [size_alloc]; exact Nat.lt_succ_self _ : w.heap.size < (w.alloc (.cells #[.int .i64 0, .int .i64 0, .string ⟨#[]⟩, .string ⟨#[]⟩, .int .i64 0, .slice none 0 0, .int .i64 0, .int .i64 0, .int .i64 0, .int .i64 0, .int .i64 0] 106)).heap.size) HG.out.size
    refine (HE.out _ HR.out).mono ?_
    rintro e w2 ⟨qk, qn, qs, qo, qd, qp, ql, qc, qa, qb, qr, qe, qf, rfl, hi, hr, hg⟩
    have Hiq := Lib.hid hi
    have HGx := Lib.hid (HG.out.trans hg)
    have HRx := Lib.hid (hr)
    clear HG HR
    have HG := HGx
    have HR := HRx
    clear HGx HRx
    clear hr hg hi
    have hk := mine HG.out hlt
    obtain ⟨⟨d0, d1, d2, d3, d4, d5, d6, d7, d8, d9, dX⟩, g0, g1, g2, g3, g4, g5, g6, g7, g8, g9, gX⟩ := hen hk
    have hl := heap_lt' hk
    clear hk
    go_wp2_with fail
    have hn := (Nw.start ((Gr.alloc (Gr.refl R w) _).trans HG.out)).put11 (B := w.heap.size) (Nat.le_refl _) (c0 := .int .i64 qk) (c1 := .int .i64 qn) (c2 := .string (cbs qs)) (c3 := .string (cbs qo)) (c4 := .int .i64 qd) (c5 := .slice qp ql qc) (c6 := .int .i64 qa) (c7 := .int .i64 qb) (c8 := .int .i64 qr) (c9 := .int .i64 qe) (c10 := .int .i64 qf)
    exact bodyPost_ret (v := .agg #[.int .i64 qk, .int .i64 qn, .string (cbs qs), .string (cbs qo), .int .i64 qd, .slice qp ql qc, .int .i64 qa, .int .i64 qb, .int .i64 qr, .int .i64 qe, .int .i64 qf]) (by simp [results, Tryz.results188, go_sem, d0, d1, d2, d3, d4, d5, d6, d7, d8, d9, dX]) rfl ⟨_, _, _, _, _, _, _, _, _, _, _, _, _, rfl, Is.lower (Nat.le_of_lt hNBq) _ (Hiq.out.put11 hNBq), HH.out.fin HR.out hn, hn.gr⟩
  | false =>
    rw [hv1, if_neg (by decide)] at hx
    cases hv2 : sees ts s.c 4 [33] with
    | true =>
      rw [if_pos hv2] at hx
      have HE := Lib.hid (fun w1 hh => prefixed_any w1 R M1 M2 M3 S ts s hh recU hU ⟨#[33]⟩ 13 x hx)
      have HV1 := Lib.hid hv1
      have HV2 := Lib.hid hv2
      clear hrec hU hgg hx hv1 hv2
      have hb0 : Below w.heap.size w (w.alloc (.cells #[.int .i64 0, .int .i64 0, .string ⟨#[]⟩, .string ⟨#[]⟩, .int .i64 0, .slice none 0 0, .int .i64 0, .int .i64 0, .int .i64 0, .int .i64 0, .int .i64 0] 106)) := (Below.refl w.heap.size w).alloc (Nat.le_refl _) _
      have hlt := h.lt
      have HH := Lib.hid h
      have HR := Lib.hid (h.go hb0)
      have HG := Lib.hid (Gr.refl R (w.alloc (.cells #[.int .i64 0, .int .i64 0, .string ⟨#[]⟩, .string ⟨#[]⟩, .int .i64 0, .slice none 0 0, .int .i64 0, .int .i64 0, .int .i64 0, .int .i64 0, .int .i64 0] 106)))
      clear h hb0
      go_enter Tryz.func188, Tryz.ntmps188
      go_wp2_with fail
      refine (HS.out _ HR.out.cu ⟨#[45]⟩).mono ?_
      rintro e w1 ⟨rfl, hb⟩
      have HGx := Lib.hid (HG.out.below hb)
      have HRx := Lib.hid (HR.out.go hb)
      clear HG HR
      have HG := HGx
      have HR := HRx
      clear HGx HRx
      clear hb
      rw [HV1.out]
      go_wp2_with fail
      refine (HS.out _ HR.out.cu ⟨#[33]⟩).mono ?_
      rintro e w2 ⟨rfl, hb⟩
      have HGx := Lib.hid (HG.out.below hb)
      have HRx := Lib.hid (HR.out.go hb)
      clear HG HR
      have HG := HGx
      have HR := HRx
      clear HGx HRx
      clear hb
      rw [HV2.out]
      go_wp2_with fail
      have hRBq := HR.out.lt
      have hNBq := Nat.lt_of_lt_of_le (by rw [size_alloc]; exact Nat.lt_succ_self _ : w.heap.size < (w.alloc (.cells #[.int .i64 0, .int .i64 0, .string ⟨#[]⟩, .string ⟨#[]⟩, .int .i64 0, .slice none 0 0, .int .i64 0, .int .i64 0, .int .i64 0, .int .i64 0, .int .i64 0] 106)).heap.size) HG.out.size
      refine (HE.out _ HR.out).mono ?_
      rintro e w3 ⟨qk, qn, qs, qo, qd, qp, ql, qc, qa, qb, qr, qe, qf, rfl, hi, hr, hg⟩
      have Hiq := Lib.hid hi
      have HGx := Lib.hid (HG.out.trans hg)
      have HRx := Lib.hid (hr)
      clear HG HR
      have HG := HGx
      have HR := HRx
      clear HGx HRx
      clear hr hg hi
      have hk := mine HG.out hlt
      obtain ⟨⟨d0, d1, d2, d3, d4, d5, d6, d7, d8, d9, dX⟩, g0, g1, g2, g3, g4, g5, g6, g7, g8, g9, gX⟩ := hen hk
      have hl := heap_lt' hk
      clear hk
      go_wp2_with fail
      have hn := (Nw.start ((Gr.alloc (Gr.refl R w) _).trans HG.out)).put11 (B := w.heap.size) (Nat.le_refl _) (c0 := .int .i64 qk) (c1 := .int .i64 qn) (c2 := .string (cbs qs)) (c3 := .string (cbs qo)) (c4 := .int .i64 qd) (c5 := .slice qp ql qc) (c6 := .int .i64 qa) (c7 := .int .i64 qb) (c8 := .int .i64 qr) (c9 := .int .i64 qe) (c10 := .int .i64 qf)
      exact bodyPost_ret (v := .agg #[.int .i64 qk, .int .i64 qn, .string (cbs qs), .string (cbs qo), .int .i64 qd, .slice qp ql qc, .int .i64 qa, .int .i64 qb, .int .i64 qr, .int .i64 qe, .int .i64 qf]) (by simp [results, Tryz.results188, go_sem, d0, d1, d2, d3, d4, d5, d6, d7, d8, d9, dX]) rfl ⟨_, _, _, _, _, _, _, _, _, _, _, _, _, rfl, Is.lower (Nat.le_of_lt hNBq) _ (Hiq.out.put11 hNBq), HH.out.fin HR.out hn, hn.gr⟩
    | false =>
      rw [hv2, if_neg (by decide)] at hx
      have HE := Lib.hid (fun w1 hh => postfix_any w1 R M1 M2 M3 S ts s hh rec hrec gg hgg x hx)
      have HV1 := Lib.hid hv1
      have HV2 := Lib.hid hv2
      clear hrec hU hgg hx hv1 hv2
      have hb0 : Below w.heap.size w (w.alloc (.cells #[.int .i64 0, .int .i64 0, .string ⟨#[]⟩, .string ⟨#[]⟩, .int .i64 0, .slice none 0 0, .int .i64 0, .int .i64 0, .int .i64 0, .int .i64 0, .int .i64 0] 106)) := (Below.refl w.heap.size w).alloc (Nat.le_refl _) _
      have hlt := h.lt
      have HH := Lib.hid h
      have HR := Lib.hid (h.go hb0)
      have HG := Lib.hid (Gr.refl R (w.alloc (.cells #[.int .i64 0, .int .i64 0, .string ⟨#[]⟩, .string ⟨#[]⟩, .int .i64 0, .slice none 0 0, .int .i64 0, .int .i64 0, .int .i64 0, .int .i64 0, .int .i64 0] 106)))
      clear h hb0
      go_enter Tryz.func188, Tryz.ntmps188
      go_wp2_with fail
      refine (HS.out _ HR.out.cu ⟨#[45]⟩).mono ?_
      rintro e w1 ⟨rfl, hb⟩
      have HGx := Lib.hid (HG.out.below hb)
      have HRx := Lib.hid (HR.out.go hb)
      clear HG HR
      have HG := HGx
      have HR := HRx
      clear HGx HRx
      clear hb
      rw [HV1.out]
      go_wp2_with fail
      refine (HS.out _ HR.out.cu ⟨#[33]⟩).mono ?_
      rintro e w2 ⟨rfl, hb⟩
      have HGx := Lib.hid (HG.out.below hb)
      have HRx := Lib.hid (HR.out.go hb)
      clear HG HR
      have HG := HGx
      have HR := HRx
      clear HGx HRx
      clear hb
      rw [HV2.out]
      go_wp2_with fail
      have hRBq := HR.out.lt
      have hNBq := Nat.lt_of_lt_of_le (by rw [size_alloc]; exact Nat.lt_succ_self _ : w.heap.size < (w.alloc (.cells #[.int .i64 0, .int .i64 0, .string ⟨#[]⟩, .string ⟨#[]⟩, .int .i64 0, .slice none 0 0, .int .i64 0, .int .i64 0, .int .i64 0, .int .i64 0, .int .i64 0] 106)).heap.size) HG.out.size
      refine (HE.out _ HR.out).mono ?_
      rintro e w3 ⟨qk, qn, qs, qo, qd, qp, ql, qc, qa, qb, qr, qe, qf, rfl, hi, hr, hg⟩
      have Hiq := Lib.hid hi
      have HGx := Lib.hid (HG.out.trans hg)
      have HRx := Lib.hid (hr)
      clear HG HR
      have HG := HGx
      have HR := HRx
      clear HGx HRx
      clear hr hg hi
      have hk := mine HG.out hlt
      obtain ⟨⟨d0, d1, d2, d3, d4, d5, d6, d7, d8, d9, dX⟩, g0, g1, g2, g3, g4, g5, g6, g7, g8, g9, gX⟩ := hen hk
      have hl := heap_lt' hk
      clear hk
      go_wp2_with fail
      have hn := (Nw.start ((Gr.alloc (Gr.refl R w) _).trans HG.out)).put11 (B := w.heap.size) (Nat.le_refl _) (c0 := .int .i64 qk) (c1 := .int .i64 qn) (c2 := .string (cbs qs)) (c3 := .string (cbs qo)) (c4 := .int .i64 qd) (c5 := .slice qp ql qc) (c6 := .int .i64 qa) (c7 := .int .i64 qb) (c8 := .int .i64 qr) (c9 := .int .i64 qe) (c10 := .int .i64 qf)
      exact bodyPost_ret (v := .agg #[.int .i64 qk, .int .i64 qn, .string (cbs qs), .string (cbs qo), .int .i64 qd, .slice qp ql qc, .int .i64 qa, .int .i64 qb, .int .i64 qr, .int .i64 qe, .int .i64 qf]) (by simp [results, Tryz.results188, go_sem, d0, d1, d2, d3, d4, d5, d6, d7, d8, d9, dX]) rfl ⟨_, _, _, _, _, _, _, _, _, _, _, _, _, rfl, Is.lower (Nat.le_of_lt hNBq) _ (Hiq.out.put11 hNBq), HH.out.fin HR.out hn, hn.gr⟩

/-- By whatever fuel (not too much of it): what the plain reader says. -/
theorem run_ok (ts : List RT) : ∀ f, f ≤ 1000000000 → RecOk ts (run ts f).1 ∧ UnOk ts (run ts f).2 := by
  intro f
  induction f with
  | zero => exact fun _ => ⟨fun n s x _ _ h => absurd h (by simp [run]), fun s x h => absurd h (by simp [run])⟩
  | succ f ih =>
    intro hf
    obtain ⟨ih1, ih2⟩ := ih (by omega)
    exact ⟨fun n s x h1 _ hx w R M1 M2 M3 S h => binary_any w R M1 M2 M3 S ts s h (run ts f).1 ih1 (run ts f).2 ih2 n h1 f x hx, fun s x hx w R M1 M2 M3 S h => unary_any w R M1 M2 M3 S ts s h (run ts f).1 ih1 (run ts f).2 ih2 f (by omega) x hx⟩
end Go.Proofs.YtnadaedibicaaaaGreatDoor
