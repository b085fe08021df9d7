/-
  The contracts of the project's reader: binary signs, one level.
-/
import Derived.Test.YtnadaedibicaaaaGreatDoorK14
import Derived.Test.YtnadaedibicaaaaGreatDoorK18
import Derived.Test.YtnadaedibicaaaaGreatDoorK19
namespace Go.Proofs.YtnadaedibicaaaaGreatDoor
open Go.RowKit
open Px (RT tokAt)
open Pe

/-- Where a loop stands that holds one expression in a block of its own. -/
structure Hold (w wr : World) (R M1 M2 M3 : Nat) (S : Value) (ts : List RT) (eb : Nat) (kind num : Int) (name ofn : List UInt8) (dims : Int) (p : Option Addr) (ln c : Nat) (at_ b r d ref : Int) (e : Ex) (s : St) : Prop where
  rs : Rs wr R M1 M2 M3 S ts s
  gr : Gr R (w.alloc (.cells #[.int .i64 0, .int .i64 0, .string ⟨#[]⟩, .string ⟨#[]⟩, .int .i64 0, .slice none 0 0, .int .i64 0, .int .i64 0, .int .i64 0, .int .i64 0, .int .i64 0] 106)) wr
  box : wr.heap[eb]? = some (.cells #[.int .i64 kind, .int .i64 num, .string (cbs name), .string (cbs ofn), .int .i64 dims, .slice p ln c, .int .i64 at_, .int .i64 b, .int .i64 r, .int .i64 d, .int .i64 ref] 106 (0, 0))
  is : IsBut (some eb) wr (w.heap.size + 1) e (exCells kind num name ofn dims (.slice p ln c) at_ b r d ref)
  lt : w.heap.size < eb
theorem row11 {w : World} {N : Nat} {T : TypeId} {o0 o1 o2 o3 o4 o5 o6 o7 o8 o9 o10 : Value} (h : w.heap[N]? = some (.cells #[o0, o1, o2, o3, o4, o5, o6, o7, o8, o9, o10] T (0, 0))) {c0 c1 c2 c3 c4 c5 c6 c7 c8 c9 c10 : Value} : (((((((((((w.setCell ⟨N, 0, none⟩ c0).setCell ⟨N, 1, none⟩ c1).setCell ⟨N, 2, none⟩ c2).setCell ⟨N, 3, none⟩ c3).setCell ⟨N, 4, none⟩ c4).setCell ⟨N, 5, none⟩ c5).setCell ⟨N, 6, none⟩ c6).setCell ⟨N, 7, none⟩ c7).setCell ⟨N, 8, none⟩ c8).setCell ⟨N, 9, none⟩ c9).setCell ⟨N, 10, none⟩ c10).heap[N]? = some (.cells #[c0, c1, c2, c3, c4, c5, c6, c7, c8, c9, c10] T (0, 0)) := by
  have h0 := row_set h 0 c0 (A2 := #[c0, o1, o2, o3, o4, o5, o6, o7, o8, o9, o10]) rfl
  have h1 := row_set h0 1 c1 (A2 := #[c0, c1, o2, o3, o4, o5, o6, o7, o8, o9, o10]) rfl
  have h2 := row_set h1 2 c2 (A2 := #[c0, c1, c2, o3, o4, o5, o6, o7, o8, o9, o10]) rfl
  have h3 := row_set h2 3 c3 (A2 := #[c0, c1, c2, c3, o4, o5, o6, o7, o8, o9, o10]) rfl
  have h4 := row_set h3 4 c4 (A2 := #[c0, c1, c2, c3, c4, o5, o6, o7, o8, o9, o10]) rfl
  have h5 := row_set h4 5 c5 (A2 := #[c0, c1, c2, c3, c4, c5, o6, o7, o8, o9, o10]) rfl
  have h6 := row_set h5 6 c6 (A2 := #[c0, c1, c2, c3, c4, c5, c6, o7, o8, o9, o10]) rfl
  have h7 := row_set h6 7 c7 (A2 := #[c0, c1, c2, c3, c4, c5, c6, c7, o8, o9, o10]) rfl
  have h8 := row_set h7 8 c8 (A2 := #[c0, c1, c2, c3, c4, c5, c6, c7, c8, o9, o10]) rfl
  have h9 := row_set h8 9 c9 (A2 := #[c0, c1, c2, c3, c4, c5, c6, c7, c8, c9, o10]) rfl
  have h10 := row_set h9 10 c10 (A2 := #[c0, c1, c2, c3, c4, c5, c6, c7, c8, c9, c10]) rfl
  exact h10
theorem IsBut.put11 {w : World} {N B : Nat} {e : Ex} {vs : List Value} (h : IsBut (some N) w B e vs) {c0 c1 c2 c3 c4 c5 c6 c7 c8 c9 c10 : Value} : IsBut (some N) (((((((((((w.setCell ⟨N, 0, none⟩ c0).setCell ⟨N, 1, none⟩ c1).setCell ⟨N, 2, none⟩ c2).setCell ⟨N, 3, none⟩ c3).setCell ⟨N, 4, none⟩ c4).setCell ⟨N, 5, none⟩ c5).setCell ⟨N, 6, none⟩ c6).setCell ⟨N, 7, none⟩ c7).setCell ⟨N, 8, none⟩ c8).setCell ⟨N, 9, none⟩ c9).setCell ⟨N, 10, none⟩ c10) B e vs :=
  h.go (by simp only [size_set]; exact Nat.le_refl _) fun bl _ hb hne => by
    obtain ⟨o, ho⟩ : ∃ o, w.heap[bl]? = some o := ⟨_, Array.getElem?_eq_getElem hb⟩
    rw [ho]
    exact put11_other ho (fun he => hne (by rw [he]))
theorem IsBut.top {w : World} {B B2 : Nat} {e : Ex} {vs : List Value} (h : Is w B2 e vs) (hB : B ≤ B2) : IsBut (some w.heap.size) w B e vs :=
  fun w' hs hk => Is.lower hB _ (Is.keep hs (fun bl h1 h2 => hk bl (Nat.le_trans hB h1) h2 (fun e => by injection e with e; omega)) _ h)
theorem IsBut.alloc {g : Option Nat} {w : World} {B : Nat} {e : Ex} {vs : List Value} (h : IsBut g w B e vs) (o : Obj) : IsBut g (w.alloc o) B e vs :=
  h.go (by rw [size_alloc]; omega) fun bl _ hb _ => heap_alloc_old _ _ hb
theorem Hold.go {w wr w' : World} {R M1 M2 M3 : Nat} {S : Value} {ts : List RT} {eb : Nat} {kind num : Int} {name ofn : List UInt8} {dims : Int} {p : Option Addr} {ln c : Nat} {at_ b r d ref : Int} {e : Ex} {s s2 : St} (h : Hold w wr R M1 M2 M3 S ts eb kind num name ofn dims p ln c at_ b r d ref e s) (hlt : R < w.heap.size) (hr : Rs w' R M1 M2 M3 S ts s2) (hg : Gr R wr w') : Hold w w' R M1 M2 M3 S ts eb kind num name ofn dims p ln c at_ b r d ref e s2 :=
  ⟨hr, h.gr.trans hg, hg.box h.box (by have := h.lt; omega), h.is.gr (by omega) hg, h.lt⟩

theorem bin_zero {ts : List RT} {rec : Nat → St → Out} {n : Nat} {e : Ex} {s : St} {x : Ex × St} (h : binLoop ts rec n 0 e s = some x) : False := by
  rw [binLoop] at h; cases h
theorem bin_no {ts : List RT} {rec : Nat → St → Out} {n g : Nat} {e : Ex} {s : St} {x : Ex × St} (h : binLoop ts rec n (g + 1) e s = some x) (hv : seesOp ts s.c n = none) : x = (e, s) := by
  rw [binLoop, hv] at h
  simpa using h.symm
theorem bin_yes {ts : List RT} {rec : Nat → St → Out} {n g : Nat} {e : Ex} {s : St} {x : Ex × St} {k : Int} (h : binLoop ts rec n (g + 1) e s = some x) (hv : seesOp ts s.c n = some k) : ∃ r s2, rec (n + 1) ⟨next s.c, s.o⟩ = some (r, s2) ∧ binLoop ts rec n g (Ex.of k 0 [] [] 0 [e, r] (peek ts s.c).at_) s2 = some x := by
  rw [binLoop, hv] at h
  dsimp only at h
  split at h
  · cases h
  · rename_i r s2 he
    exact ⟨r, s2, he, h⟩

set_option maxRecDepth 8000 in
set_option maxHeartbeats 2000000 in
theorem binary_top (w : World) (R M1 M2 M3 : Nat) (S : Value) (ts : List RT) (s : St) (h : Rs w R M1 M2 M3 S ts s) (recU : St → Out) (hU : UnOk ts recU) (n : Nat) (hn : 5 < n) (x : Ex × St) (hx : recU s = some x) :
    Calls Tryz.prog 174 #[.pointer (some ⟨R, 0, none⟩), .int .i64 (n : Int)] w (ExPost w.heap.size w R M1 M2 M3 S ts x) := by
  have HE := Lib.hid (fun w1 hh => hU s x hx w1 R M1 M2 M3 S hh)
  have hd5 : decide ((5 : Int) < (n : Int)) = true := decide_eq_true (by omega)
  clear hU hx
  have hb0 : Below w.heap.size w (w.alloc (.cells #[.int .i64 0, .int .i64 0, .string ⟨#[]⟩, .string ⟨#[]⟩, .int .i64 0, .slice none 0 0, .int .i64 0, .int .i64 0, .int .i64 0, .int .i64 0, .int .i64 0] 106)) := (Below.refl w.heap.size w).alloc (Nat.le_refl _) _
  have hlt := h.lt
  have HH := Lib.hid h
  have HR := Lib.hid (h.go hb0)
  have HG := Lib.hid (Gr.refl R (w.alloc (.cells #[.int .i64 0, .int .i64 0, .string ⟨#[]⟩, .string ⟨#[]⟩, .int .i64 0, .slice none 0 0, .int .i64 0, .int .i64 0, .int .i64 0, .int .i64 0, .int .i64 0] 106)))
  clear h hb0
  go_enter Tryz.func174, Tryz.ntmps174
  go_wp2_with fail
  have hRBq := HR.out.lt
  have hNBq := Nat.lt_of_lt_of_le (by rw [size_alloc]; exact Nat.lt_succ_self _ : w.heap.size < (w.alloc (.cells #[.int .i64 0, .int .i64 0, .string ⟨#[]⟩, .string ⟨#[]⟩, .int .i64 0, .slice none 0 0, .int .i64 0, .int .i64 0, .int .i64 0, .int .i64 0, .int .i64 0] 106)).heap.size) HG.out.size
  refine (HE.out _ HR.out).mono ?_
  rintro e w1 ⟨qk, qn, qs, qo, qd, qp, ql, qc, qa, qb, qr, qe, qf, rfl, hi, hr, hg⟩
  have Hiq := Lib.hid hi
  have HGx := Lib.hid (HG.out.trans hg)
  have HRx := Lib.hid (hr)
  clear HG HR
  have HG := HGx
  have HR := HRx
  clear HGx HRx
  clear hr hg hi
  have hk := mine HG.out hlt
  obtain ⟨⟨d0, d1, d2, d3, d4, d5, d6, d7, d8, d9, dX⟩, g0, g1, g2, g3, g4, g5, g6, g7, g8, g9, gX⟩ := hen hk
  have hl := heap_lt' hk
  clear hk
  go_wp2_with fail
  have hn := (Nw.start ((Gr.alloc (Gr.refl R w) _).trans HG.out)).put11 (B := w.heap.size) (Nat.le_refl _) (c0 := .int .i64 qk) (c1 := .int .i64 qn) (c2 := .string (cbs qs)) (c3 := .string (cbs qo)) (c4 := .int .i64 qd) (c5 := .slice qp ql qc) (c6 := .int .i64 qa) (c7 := .int .i64 qb) (c8 := .int .i64 qr) (c9 := .int .i64 qe) (c10 := .int .i64 qf)
  exact bodyPost_ret (v := .agg #[.int .i64 qk, .int .i64 qn, .string (cbs qs), .string (cbs qo), .int .i64 qd, .slice qp ql qc, .int .i64 qa, .int .i64 qb, .int .i64 qr, .int .i64 qe, .int .i64 qf]) (by simp [results, Tryz.results174, go_sem, d0, d1, d2, d3, d4, d5, d6, d7, d8, d9, dX]) rfl ⟨_, _, _, _, _, _, _, _, _, _, _, _, _, rfl, Is.lower (Nat.le_of_lt hNBq) _ (Hiq.out.put11 hNBq), HH.out.fin HR.out hn, hn.gr⟩

set_option maxRecDepth 8000 in
set_option maxHeartbeats 2000000 in
theorem binary_low (w : World) (R M1 M2 M3 : Nat) (S : Value) (ts : List RT) (s : St) (h : Rs w R M1 M2 M3 S ts s) (rec : Nat → St → Out) (hrec : RecOk ts rec) (n : Nat) (hn1 : 1 ≤ n) (hn : n ≤ 5) (gg : Nat) (e0 : Ex) (s1 : St) (he : rec (n + 1) s = some (e0, s1)) (x : Ex × St) (hx : binLoop ts rec n gg e0 s1 = some x) :
    Calls Tryz.prog 174 #[.pointer (some ⟨R, 0, none⟩), .int .i64 (n : Int)] w (ExPost w.heap.size w R M1 M2 M3 S ts x) := by
  have HX := Lib.hid hx
  have HREC := Lib.hid (fun (s2 : St) (y : Ex × St) (hy : rec (n + 1) s2 = some y) w1 hh => hrec (n + 1) s2 y (by omega) (by omega) hy w1 R M1 M2 M3 S hh)
  have HE := Lib.hid he
  have hd5 : decide ((5 : Int) < (n : Int)) = false := decide_eq_false (by omega)
  have hdw : wrap64 ((n : Int) + 1) = ((n + 1 : Nat) : Int) := by simp [wrap64]; omega
  clear hrec hx he
  have hb0 : Below w.heap.size w (w.alloc (.cells #[.int .i64 0, .int .i64 0, .string ⟨#[]⟩, .string ⟨#[]⟩, .int .i64 0, .slice none 0 0, .int .i64 0, .int .i64 0, .int .i64 0, .int .i64 0, .int .i64 0] 106)) := (Below.refl w.heap.size w).alloc (Nat.le_refl _) _
  have hlt := h.lt
  have HH := Lib.hid h
  have HR := Lib.hid (h.go hb0)
  have HG := Lib.hid (Gr.refl R (w.alloc (.cells #[.int .i64 0, .int .i64 0, .string ⟨#[]⟩, .string ⟨#[]⟩, .int .i64 0, .slice none 0 0, .int .i64 0, .int .i64 0, .int .i64 0, .int .i64 0, .int .i64 0] 106)))
  clear h hb0
  go_enter Tryz.func174, Tryz.ntmps174
  go_wp2_with fail
  refine (HREC.out s _ HE.out _ HR.out).mono ?_
  rintro e w1 ⟨qk, qn, qs, qo, qd, qp, ql, qc, qa, qb, qr, qe, qf, rfl, hi, hr, hg⟩
  have HN1 : Hid (w.heap.size < w1.heap.size) := (Nat.lt_of_lt_of_le (by rw [size_alloc]; exact Nat.lt_succ_self _ : w.heap.size < (w.alloc (.cells #[.int .i64 0, .int .i64 0, .string ⟨#[]⟩, .string ⟨#[]⟩, .int .i64 0, .slice none 0 0, .int .i64 0, .int .i64 0, .int .i64 0, .int .i64 0, .int .i64 0] 106)).heap.size) (HG.out.trans hg).size)
  have HO := Lib.hid (show Hold w (w1.alloc (.cells #[.int .i64 qk, .int .i64 qn, .string (cbs qs), .string (cbs qo), .int .i64 qd, .slice qp ql qc, .int .i64 qa, .int .i64 qb, .int .i64 qr, .int .i64 qe, .int .i64 qf] 106)) R M1 M2 M3 S ts w1.heap.size qk qn qs qo qd qp ql qc qa qb qr qe qf e0 s1 from
    ⟨hr.go ((Below.refl _ _).alloc (Nat.le_refl _) _), (HG.out.trans hg).alloc _, heap_alloc_new w1 _, (IsBut.top hi (by rw [size_alloc]; exact Nat.le_refl _)).alloc _, HN1.out⟩)
  have HR0 := HR
  clear hi hr hg HR HG HE
  go_wp2_with fail
  go_loopg [] gg (fun m wr => ∃ e s4 kind num name ofn dims p ln c at_ b r d ref, Hold w wr R M1 M2 M3 S ts w1.heap.size kind num name ofn dims p ln c at_ b r d ref e s4 ∧ binLoop ts rec n m e s4 = some x)
  case atStart => exact ⟨_, _, _, _, _, _, _, _, _, _, _, _, _, _, _, HO.out, HX.out⟩
  case round =>
    obtain ⟨e, s4, kind, num, name, ofn, dims, p, ln, c, at_, b, r, d, ref, ho, hx⟩ := hrel
    have HO1 := Lib.hid ho
    have HX1 := Lib.hid hx
    clear ho hx HO HX
    cases gk with
    | zero => exact (bin_zero HX1.out).elim
    | succ m =>
      go_wp2_with fail
      refine (seesOp_any _ R M1 M2 M3 S ts s4 HO1.out.rs n).mono ?_
      rintro e' w2 ⟨rfl, hb⟩
      have HO2 := Lib.hid (HO1.out.go hlt (HO1.out.rs.go hb) (Gr.of hb))
      clear hb HO1
      cases hv : seesOp ts s4.c n with
      | none =>
        have hx := bin_no HX1.out hv
        subst hx
        try rw [hv]
        clear hv
        dsimp only [opV]
        obtain ⟨⟨x0, x1, x2, x3, x4, x5, x6, x7, x8, x9, xX⟩, y0, y1, y2, y3, y4, y5, y6, y7, y8, y9, yX⟩ := hen HO2.out.box
        have hlb := heap_lt' HO2.out.box
        have hk := mine HO2.out.gr hlt
        obtain ⟨⟨d0, d1, d2, d3, d4, d5, d6, d7, d8, d9, dX⟩, g0, g1, g2, g3, g4, g5, g6, g7, g8, g9, gX⟩ := hen hk
        have hl := heap_lt' hk
        have hnb := Nat.ne_of_lt HO2.out.lt
        have hnb2 := Ne.symm hnb
        clear hk
        go_wp2_with fail
        have hn := (Nw.start ((Gr.alloc (Gr.refl R w) _).trans HO2.out.gr)).put11 (B := w.heap.size) (Nat.le_refl _) (c0 := .int .i64 kind) (c1 := .int .i64 num) (c2 := .string (cbs name)) (c3 := .string (cbs ofn)) (c4 := .int .i64 dims) (c5 := .slice p ln c) (c6 := .int .i64 at_) (c7 := .int .i64 b) (c8 := .int .i64 r) (c9 := .int .i64 d) (c10 := .int .i64 ref)
        exact bodyPost_ret (v := .agg #[.int .i64 kind, .int .i64 num, .string (cbs name), .string (cbs ofn), .int .i64 dims, .slice p ln c, .int .i64 at_, .int .i64 b, .int .i64 r, .int .i64 d, .int .i64 ref]) (by simp [results, Tryz.results174, go_sem, d0, d1, d2, d3, d4, d5, d6, d7, d8, d9, dX]) rfl ⟨_, _, _, _, _, _, _, _, _, _, _, _, _, rfl, Is.lower (Nat.le_succ _) _ (HO2.out.is.now.put11 (N := w.heap.size) (Nat.lt_succ_self _)), HH.out.fin HO2.out.rs hn, hn.gr⟩
      | some k =>
        obtain ⟨e5, s5, he, h5⟩ := bin_yes HX1.out hv
        try rw [hv]
        have HE := Lib.hid he
        have hnx := next_any _ R _ S _ ts s4.c HO2.out.rs.cu
        generalize peek ts s4.c = t at hnx h5
        unfold tokW at hnx
        have hfd : ∀ w1 : World, (Instr.field 66 (.agg #[.int .i64 t.kind, .string (cbs t.text), .int .i64 t.num, .int .i64 t.at_]) 3).run Tryz.prog w1 = .ok (.int .i64 t.at_) w1 := fun _ => by kernel_rfl
        have H5 := Lib.hid h5
        have HNX := Lib.hid hnx
        clear hv he h5 hnx HX1
        dsimp only [opV]
        go_wp2_with fail
        refine (HNX.out).mono ?_
        rintro e' w3 ⟨rfl, hc, hg⟩
        have HO3 := Lib.hid (HO2.out.go hlt (HO2.out.rs.cur hg hc) hg)
        clear hc hg HO2 HNX
        go_wp2_with fail
        have HEB : Hid (w1.heap.size < w3.heap.size) := heap_lt' HO3.out.box
        refine (HREC.out _ _ HE.out _ HO3.out.rs).mono ?_
        rintro e' w4 ⟨zk, zn, zs, zo, zd, zp, zl, zc, za, zb, zr, ze, zf, rfl, hi, hr, hg⟩
        have HO4 := Lib.hid (HO3.out.go hlt hr hg)
        have HIZ := Lib.hid hi
        clear hi hr hg HO3
        obtain ⟨⟨x0, x1, x2, x3, x4, x5, x6, x7, x8, x9, xX⟩, y0, y1, y2, y3, y4, y5, y6, y7, y8, y9, yX⟩ := hen HO4.out.box
        have hlb := heap_lt' HO4.out.box
        have hk := mine HO4.out.gr hlt
        obtain ⟨⟨d0, d1, d2, d3, d4, d5, d6, d7, d8, d9, dX⟩, g0, g1, g2, g3, g4, g5, g6, g7, g8, g9, gX⟩ := hen hk
        have hl := heap_lt' hk
        have hnb := Nat.ne_of_lt HO4.out.lt
        have hnb2 := Ne.symm hnb
        clear hk
        go_wp2_with fail
        go_roundg m
        case measure => omega
        case rel =>
          have hEL : w.heap.size < w1.heap.size := HN1.out
          have hn := (((Nw.start HO4.out.gr).put11 (B := w1.heap.size) (by rw [size_alloc]; exact hEL) (c0 := .int .i64 k) (c1 := .int .i64 0) (c2 := .string ⟨#[]⟩) (c3 := .string ⟨#[]⟩) (c4 := .int .i64 0) (c5 := .slice (some ⟨w4.heap.size + 1, 0, none⟩) 2 2) (c6 := .int .i64 t.at_) (c7 := .int .i64 0) (c8 := .int .i64 0) (c9 := .int .i64 0) (c10 := .int .i64 0)).alloc (.cells #[.int .i64 zk, .int .i64 zn, .string (cbs zs), .string (cbs zo), .int .i64 zd, .slice zp zl zc, .int .i64 za, .int .i64 zb, .int .i64 zr, .int .i64 ze, .int .i64 zf] 106)).alloc (.cells #[.int .i64 kind, .int .i64 num, .string (cbs name), .string (cbs ofn), .int .i64 dims, .slice p ln c, .int .i64 at_, .int .i64 b, .int .i64 r, .int .i64 d, .int .i64 ref, .int .i64 zk, .int .i64 zn, .string (cbs zs), .string (cbs zo), .int .i64 zd, .slice zp zl zc, .int .i64 za, .int .i64 zb, .int .i64 zr, .int .i64 ze, .int .i64 zf] 106)
          have hbx := box2_put11 (w := w4) (N := w1.heap.size) (o := .cells #[.int .i64 zk, .int .i64 zn, .string (cbs zs), .string (cbs zo), .int .i64 zd, .slice zp zl zc, .int .i64 za, .int .i64 zb, .int .i64 zr, .int .i64 ze, .int .i64 zf] 106) (o2 := .cells #[.int .i64 kind, .int .i64 num, .string (cbs name), .string (cbs ofn), .int .i64 dims, .slice p ln c, .int .i64 at_, .int .i64 b, .int .i64 r, .int .i64 d, .int .i64 ref, .int .i64 zk, .int .i64 zn, .string (cbs zs), .string (cbs zo), .int .i64 zd, .slice zp zl zc, .int .i64 za, .int .i64 zb, .int .i64 zr, .int .i64 ze, .int .i64 zf] 106) (c0 := .int .i64 k) (c1 := .int .i64 0) (c2 := .string ⟨#[]⟩) (c3 := .string ⟨#[]⟩) (c4 := .int .i64 0) (c5 := .slice (some ⟨w4.heap.size + 1, 0, none⟩) 2 2) (c6 := .int .i64 t.at_) (c7 := .int .i64 0) (c8 := .int .i64 0) (c9 := .int .i64 0) (c10 := .int .i64 0)
          have hw4 : w1.heap.size < w4.heap.size := heap_lt' HO4.out.box
          refine ⟨_, s5, _, _, _, _, _, _, _, _, _, _, _, _, _, ⟨HR0.out.fin HO4.out.rs hn, hn.gr, alloc_box _ (alloc_box _ (row11 HO4.out.box)), IsBut.node2 hbx (by omega) (fun q hq => by injection hq with hq; omega) ((HO4.out.is.put11.alloc _).alloc _) (IsBut.of (((HIZ.out.put11 (N := w1.heap.size) HEB.out).alloc _).alloc _) (by have := HEB.out; omega) (fun q hq => by injection hq with hq; rw [← hq]; exact HEB.out)) rfl k 0 [] [] 0 t.at_ 2, hEL⟩, H5.out⟩

set_option maxRecDepth 8000 in
set_option maxHeartbeats 2000000 in
theorem binary_any (w : World) (R M1 M2 M3 : Nat) (S : Value) (ts : List RT) (s : St) (h : Rs w R M1 M2 M3 S ts s) (rec : Nat → St → Out) (hrec : RecOk ts rec) (recU : St → Out) (hU : UnOk ts recU) (n : Nat) (hn1 : 1 ≤ n) (gg : Nat) (x : Ex × St) (hx : (if 5 < n then recU s else match rec (n + 1) s with | none => none | some (l, s1) => binLoop ts rec n gg l s1) = some x) :
    Calls Tryz.prog 174 #[.pointer (some ⟨R, 0, none⟩), .int .i64 (n : Int)] w (ExPost w.heap.size w R M1 M2 M3 S ts x) := by
  by_cases hn : 5 < n
  · rw [if_pos hn] at hx
    exact binary_top w R M1 M2 M3 S ts s h recU hU n hn x hx
  · rw [if_neg hn] at hx
    split at hx
    · cases hx
    · rename_i e0 s1 he
      exact binary_low w R M1 M2 M3 S ts s h rec hrec n hn1 (by omega) gg e0 s1 he x hx
end Go.Proofs.YtnadaedibicaaaaGreatDoor
