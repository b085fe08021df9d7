/-
  The contracts of the project's reader: what begins with a keyword; a first one.
-/
import Derived.Test.YtnadaedibicaaaaGreatDoorK14
import Derived.Test.YtnadaedibicaaaaGreatDoorK17
import Derived.Test.YtnadaedibicaaaaGreatDoorK21
import Derived.Deep.RegionHeld3
import Derived.Laws.StructEq
namespace Go.Proofs.YtnadaedibicaaaaGreatDoor
open Go.RowKit
open Px (RT tokAt)
open Pe

theorem cbs_ne {l l2 : List UInt8} (h : l ≠ l2) : (cbs l == (⟨l2.toArray⟩ : ByteArray)) = false := by
  rw [beq_toListBytes, cbs_list, show (⟨l2.toArray⟩ : ByteArray).toList = l2 from cbs_list l2, beq_eq_false_iff_ne]
  exact h
theorem word_at0 {l : List UInt8} (h : l = [116, 114, 117, 101]) {w : World} {M : Nat} (hb : w.heap[M]? = some (.map mapWord 6)) :
    (Instr.lookup 200 (.map (some M)) (.string (cbs l)) true).run Tryz.prog w = .ok (.tuple #[.func (.func 181) #[] #[], .bool true]) w := by
  subst h
  exact word_hit0 hb
theorem word_at1 {l : List UInt8} (h : l = [102, 97, 108, 115, 101]) {w : World} {M : Nat} (hb : w.heap[M]? = some (.map mapWord 6)) :
    (Instr.lookup 200 (.map (some M)) (.string (cbs l)) true).run Tryz.prog w = .ok (.tuple #[.func (.func 181) #[] #[], .bool true]) w := by
  subst h
  exact word_hit1 hb
theorem word_at2 {l : List UInt8} (h : l = [110, 117, 108, 108]) {w : World} {M : Nat} (hb : w.heap[M]? = some (.map mapWord 6)) :
    (Instr.lookup 200 (.map (some M)) (.string (cbs l)) true).run Tryz.prog w = .ok (.tuple #[.func (.func 182) #[] #[], .bool true]) w := by
  subst h
  exact word_hit2 hb
theorem word_at3 {l : List UInt8} (h : l = [110, 101, 119]) {w : World} {M : Nat} (hb : w.heap[M]? = some (.map mapWord 6)) :
    (Instr.lookup 200 (.map (some M)) (.string (cbs l)) true).run Tryz.prog w = .ok (.tuple #[.func (.func 183) #[] #[], .bool true]) w := by
  subst h
  exact word_hit3 hb
theorem word_at4 {l : List UInt8} (h : l = [108, 101, 110]) {w : World} {M : Nat} (hb : w.heap[M]? = some (.map mapWord 6)) :
    (Instr.lookup 200 (.map (some M)) (.string (cbs l)) true).run Tryz.prog w = .ok (.tuple #[.func (.func 184) #[] #[], .bool true]) w := by
  subst h
  exact word_hit4 hb
theorem word_at5 {l : List UInt8} (h : l = [114, 101, 97, 100]) {w : World} {M : Nat} (hb : w.heap[M]? = some (.map mapWord 6)) :
    (Instr.lookup 200 (.map (some M)) (.string (cbs l)) true).run Tryz.prog w = .ok (.tuple #[.func (.func 185) #[] #[], .bool true]) w := by
  subst h
  exact word_hit5 hb

set_option maxRecDepth 8000 in
set_option maxHeartbeats 2000000 in
theorem kw_true (w : World) (R M1 M2 M3 : Nat) (S : Value) (ts : List RT) (s : St) (h : Rs w R M1 M2 M3 S ts s) (HT : (peek ts s.c).text = [116, 114, 117, 101]) :
    Calls Tryz.prog 179 #[.pointer (some ⟨R, 0, none⟩)] w (ExPost w.heap.size w R M1 M2 M3 S ts (truth ts s)) := by
  have HE := Lib.hid (fun w1 hh => truth_any w1 R M1 M2 M3 S ts s hh)
  generalize hres : (truth ts s) = res at HE ⊢
  clear hres
  have hp := fun w1 hh => peek_any w1 R 203 S [.int .i64 s.o, .map (some M1), .map (some M2), .map (some M3)] ts s.c hh
  generalize ht0 : peek ts s.c = t at hp HT
  unfold tokW at hp
  have hfd : ∀ w1 : World, (Instr.field 66 (.agg #[.int .i64 t.kind, .string (cbs t.text), .int .i64 t.num, .int .i64 t.at_]) 1).run Tryz.prog w1 = .ok (.string (cbs t.text)) w1 := fun _ => by kernel_rfl
  have HP := Lib.hid hp
  have HTH := Lib.hid HT
  clear hp ht0 HT
  have hb0 : Below w.heap.size w (w.alloc (.cells #[.int .i64 0, .int .i64 0, .string ⟨#[]⟩, .string ⟨#[]⟩, .int .i64 0, .slice none 0 0, .int .i64 0, .int .i64 0, .int .i64 0, .int .i64 0, .int .i64 0] 106)) := (Below.refl w.heap.size w).alloc (Nat.le_refl _) _
  have hlt := h.lt
  have HH := Lib.hid h
  have HR := Lib.hid (h.go hb0)
  have HG := Lib.hid (Gr.refl R (w.alloc (.cells #[.int .i64 0, .int .i64 0, .string ⟨#[]⟩, .string ⟨#[]⟩, .int .i64 0, .slice none 0 0, .int .i64 0, .int .i64 0, .int .i64 0, .int .i64 0, .int .i64 0] 106)))
  clear h hb0
  go_enter Tryz.func179, Tryz.ntmps179
  obtain ⟨o4, o5, o6, o7, f4⟩ := HR.out.open_
  clear o4 f4 o5 o7
  have HRD := Lib.hid (HR.out.go (Below.refl _ _).drew)
  go_wp2_with fail
  go_region_held3 (fun w' => w'.cell? ⟨R, 6, none⟩ = some (.map (some M2))) (first | exact o6 | exact oo) (first
    | (go_at_call 44; (with_reducible refine Calls.mono (HP.out _ HRD.out.cu) ?_); rintro e w1 ⟨rfl, hb⟩; have HR2 := Lib.hid (HRD.out.go hb); have HG2 := Lib.hid ((HG.out.trans (Gr.of (Below.refl _ _).drew)).trans (Gr.of hb)); clear hb; have oo := HR2.out.open_; replace oo := oo.2.2.1; have hlk := word_at0 HTH.out HR2.out.m2))
  clear HR HG HRD oo o6
  have HR := HR2
  have HG := HG2
  clear HR2 HG2
  go_wp2_with fail
  have hRBq := HR.out.lt
  have hNBq := Nat.lt_of_lt_of_le (by rw [size_alloc]; exact Nat.lt_succ_self _ : w.heap.size < (w.alloc (.cells #[.int .i64 0, .int .i64 0, .string ⟨#[]⟩, .string ⟨#[]⟩, .int .i64 0, .slice none 0 0, .int .i64 0, .int .i64 0, .int .i64 0, .int .i64 0, .int .i64 0] 106)).heap.size) HG.out.size
  refine (HE.out _ HR.out).mono ?_
  rintro e w2 ⟨qk, qn, qs, qo, qd, qp, ql, qc, qa, qb, qr, qe, qf, rfl, hi, hr, hg⟩
  have Hiq := Lib.hid hi
  have HGx := Lib.hid (HG.out.trans hg)
  have HRx := Lib.hid (hr)
  clear HG HR
  have HG := HGx
  have HR := HRx
  clear HGx HRx
  clear hr hg hi
  have hk := mine HG.out hlt
  obtain ⟨⟨d0, d1, d2, d3, d4, d5, d6, d7, d8, d9, dX⟩, g0, g1, g2, g3, g4, g5, g6, g7, g8, g9, gX⟩ := hen hk
  have hl := heap_lt' hk
  clear hk
  go_wp2_with fail
  have hn := (Nw.start ((Gr.alloc (Gr.refl R w) _).trans HG.out)).put11 (B := w.heap.size) (Nat.le_refl _) (c0 := .int .i64 qk) (c1 := .int .i64 qn) (c2 := .string (cbs qs)) (c3 := .string (cbs qo)) (c4 := .int .i64 qd) (c5 := .slice qp ql qc) (c6 := .int .i64 qa) (c7 := .int .i64 qb) (c8 := .int .i64 qr) (c9 := .int .i64 qe) (c10 := .int .i64 qf)
  exact bodyPost_ret (v := .agg #[.int .i64 qk, .int .i64 qn, .string (cbs qs), .string (cbs qo), .int .i64 qd, .slice qp ql qc, .int .i64 qa, .int .i64 qb, .int .i64 qr, .int .i64 qe, .int .i64 qf]) (by simp [results, Tryz.results179, go_sem, d0, d1, d2, d3, d4, d5, d6, d7, d8, d9, dX]) rfl ⟨_, _, _, _, _, _, _, _, _, _, _, _, _, rfl, Is.lower (Nat.le_of_lt hNBq) _ (Hiq.out.put11 hNBq), HH.out.fin HR.out hn, hn.gr⟩

set_option maxRecDepth 8000 in
set_option maxHeartbeats 2000000 in
theorem kw_false (w : World) (R M1 M2 M3 : Nat) (S : Value) (ts : List RT) (s : St) (h : Rs w R M1 M2 M3 S ts s) (HT : (peek ts s.c).text = [102, 97, 108, 115, 101]) :
    Calls Tryz.prog 179 #[.pointer (some ⟨R, 0, none⟩)] w (ExPost w.heap.size w R M1 M2 M3 S ts (truth ts s)) := by
  have HE := Lib.hid (fun w1 hh => truth_any w1 R M1 M2 M3 S ts s hh)
  generalize hres : (truth ts s) = res at HE ⊢
  clear hres
  have hp := fun w1 hh => peek_any w1 R 203 S [.int .i64 s.o, .map (some M1), .map (some M2), .map (some M3)] ts s.c hh
  generalize ht0 : peek ts s.c = t at hp HT
  unfold tokW at hp
  have hfd : ∀ w1 : World, (Instr.field 66 (.agg #[.int .i64 t.kind, .string (cbs t.text), .int .i64 t.num, .int .i64 t.at_]) 1).run Tryz.prog w1 = .ok (.string (cbs t.text)) w1 := fun _ => by kernel_rfl
  have HP := Lib.hid hp
  have HTH := Lib.hid HT
  clear hp ht0 HT
  have hb0 : Below w.heap.size w (w.alloc (.cells #[.int .i64 0, .int .i64 0, .string ⟨#[]⟩, .string ⟨#[]⟩, .int .i64 0, .slice none 0 0, .int .i64 0, .int .i64 0, .int .i64 0, .int .i64 0, .int .i64 0] 106)) := (Below.refl w.heap.size w).alloc (Nat.le_refl _) _
  have hlt := h.lt
  have HH := Lib.hid h
  have HR := Lib.hid (h.go hb0)
  have HG := Lib.hid (Gr.refl R (w.alloc (.cells #[.int .i64 0, .int .i64 0, .string ⟨#[]⟩, .string ⟨#[]⟩, .int .i64 0, .slice none 0 0, .int .i64 0, .int .i64 0, .int .i64 0, .int .i64 0, .int .i64 0] 106)))
  clear h hb0
  go_enter Tryz.func179, Tryz.ntmps179
  obtain ⟨o4, o5, o6, o7, f4⟩ := HR.out.open_
  clear o4 f4 o5 o7
  have HRD := Lib.hid (HR.out.go (Below.refl _ _).drew)
  go_wp2_with fail
  go_region_held3 (fun w' => w'.cell? ⟨R, 6, none⟩ = some (.map (some M2))) (first | exact o6 | exact oo) (first
    | (go_at_call 44; (with_reducible refine Calls.mono (HP.out _ HRD.out.cu) ?_); rintro e w1 ⟨rfl, hb⟩; have HR2 := Lib.hid (HRD.out.go hb); have HG2 := Lib.hid ((HG.out.trans (Gr.of (Below.refl _ _).drew)).trans (Gr.of hb)); clear hb; have oo := HR2.out.open_; replace oo := oo.2.2.1; have hlk := word_at1 HTH.out HR2.out.m2))
  clear HR HG HRD oo o6
  have HR := HR2
  have HG := HG2
  clear HR2 HG2
  go_wp2_with fail
  have hRBq := HR.out.lt
  have hNBq := Nat.lt_of_lt_of_le (by rw [size_alloc]; exact Nat.lt_succ_self _ : w.heap.size < (w.alloc (.cells #[.int .i64 0, .int .i64 0, .string ⟨#[]⟩, .string ⟨#[]⟩, .int .i64 0, .slice none 0 0, .int .i64 0, .int .i64 0, .int .i64 0, .int .i64 0, .int .i64 0] 106)).heap.size) HG.out.size
  refine (HE.out _ HR.out).mono ?_
  rintro e w2 ⟨qk, qn, qs, qo, qd, qp, ql, qc, qa, qb, qr, qe, qf, rfl, hi, hr, hg⟩
  have Hiq := Lib.hid hi
  have HGx := Lib.hid (HG.out.trans hg)
  have HRx := Lib.hid (hr)
  clear HG HR
  have HG := HGx
  have HR := HRx
  clear HGx HRx
  clear hr hg hi
  have hk := mine HG.out hlt
  obtain ⟨⟨d0, d1, d2, d3, d4, d5, d6, d7, d8, d9, dX⟩, g0, g1, g2, g3, g4, g5, g6, g7, g8, g9, gX⟩ := hen hk
  have hl := heap_lt' hk
  clear hk
  go_wp2_with fail
  have hn := (Nw.start ((Gr.alloc (Gr.refl R w) _).trans HG.out)).put11 (B := w.heap.size) (Nat.le_refl _) (c0 := .int .i64 qk) (c1 := .int .i64 qn) (c2 := .string (cbs qs)) (c3 := .string (cbs qo)) (c4 := .int .i64 qd) (c5 := .slice qp ql qc) (c6 := .int .i64 qa) (c7 := .int .i64 qb) (c8 := .int .i64 qr) (c9 := .int .i64 qe) (c10 := .int .i64 qf)
  exact bodyPost_ret (v := .agg #[.int .i64 qk, .int .i64 qn, .string (cbs qs), .string (cbs qo), .int .i64 qd, .slice qp ql qc, .int .i64 qa, .int .i64 qb, .int .i64 qr, .int .i64 qe, .int .i64 qf]) (by simp [results, Tryz.results179, go_sem, d0, d1, d2, d3, d4, d5, d6, d7, d8, d9, dX]) rfl ⟨_, _, _, _, _, _, _, _, _, _, _, _, _, rfl, Is.lower (Nat.le_of_lt hNBq) _ (Hiq.out.put11 hNBq), HH.out.fin HR.out hn, hn.gr⟩

set_option maxRecDepth 8000 in
set_option maxHeartbeats 2000000 in
theorem kw_null (w : World) (R M1 M2 M3 : Nat) (S : Value) (ts : List RT) (s : St) (h : Rs w R M1 M2 M3 S ts s) (HT : (peek ts s.c).text = [110, 117, 108, 108]) :
    Calls Tryz.prog 179 #[.pointer (some ⟨R, 0, none⟩)] w (ExPost w.heap.size w R M1 M2 M3 S ts (null ts s)) := by
  have HE := Lib.hid (fun w1 hh => null_any w1 R M1 M2 M3 S ts s hh)
  generalize hres : (null ts s) = res at HE ⊢
  clear hres
  have hp := fun w1 hh => peek_any w1 R 203 S [.int .i64 s.o, .map (some M1), .map (some M2), .map (some M3)] ts s.c hh
  generalize ht0 : peek ts s.c = t at hp HT
  unfold tokW at hp
  have hfd : ∀ w1 : World, (Instr.field 66 (.agg #[.int .i64 t.kind, .string (cbs t.text), .int .i64 t.num, .int .i64 t.at_]) 1).run Tryz.prog w1 = .ok (.string (cbs t.text)) w1 := fun _ => by kernel_rfl
  have HP := Lib.hid hp
  have HTH := Lib.hid HT
  clear hp ht0 HT
  have hb0 : Below w.heap.size w (w.alloc (.cells #[.int .i64 0, .int .i64 0, .string ⟨#[]⟩, .string ⟨#[]⟩, .int .i64 0, .slice none 0 0, .int .i64 0, .int .i64 0, .int .i64 0, .int .i64 0, .int .i64 0] 106)) := (Below.refl w.heap.size w).alloc (Nat.le_refl _) _
  have hlt := h.lt
  have HH := Lib.hid h
  have HR := Lib.hid (h.go hb0)
  have HG := Lib.hid (Gr.refl R (w.alloc (.cells #[.int .i64 0, .int .i64 0, .string ⟨#[]⟩, .string ⟨#[]⟩, .int .i64 0, .slice none 0 0, .int .i64 0, .int .i64 0, .int .i64 0, .int .i64 0, .int .i64 0] 106)))
  clear h hb0
  go_enter Tryz.func179, Tryz.ntmps179
  obtain ⟨o4, o5, o6, o7, f4⟩ := HR.out.open_
  clear o4 f4 o5 o7
  have HRD := Lib.hid (HR.out.go (Below.refl _ _).drew)
  go_wp2_with fail
  go_region_held3 (fun w' => w'.cell? ⟨R, 6, none⟩ = some (.map (some M2))) (first | exact o6 | exact oo) (first
    | (go_at_call 44; (with_reducible refine Calls.mono (HP.out _ HRD.out.cu) ?_); rintro e w1 ⟨rfl, hb⟩; have HR2 := Lib.hid (HRD.out.go hb); have HG2 := Lib.hid ((HG.out.trans (Gr.of (Below.refl _ _).drew)).trans (Gr.of hb)); clear hb; have oo := HR2.out.open_; replace oo := oo.2.2.1; have hlk := word_at2 HTH.out HR2.out.m2))
  clear HR HG HRD oo o6
  have HR := HR2
  have HG := HG2
  clear HR2 HG2
  go_wp2_with fail
  have hRBq := HR.out.lt
  have hNBq := Nat.lt_of_lt_of_le (by rw [size_alloc]; exact Nat.lt_succ_self _ : w.heap.size < (w.alloc (.cells #[.int .i64 0, .int .i64 0, .string ⟨#[]⟩, .string ⟨#[]⟩, .int .i64 0, .slice none 0 0, .int .i64 0, .int .i64 0, .int .i64 0, .int .i64 0, .int .i64 0] 106)).heap.size) HG.out.size
  refine (HE.out _ HR.out).mono ?_
  rintro e w2 ⟨qk, qn, qs, qo, qd, qp, ql, qc, qa, qb, qr, qe, qf, rfl, hi, hr, hg⟩
  have Hiq := Lib.hid hi
  have HGx := Lib.hid (HG.out.trans hg)
  have HRx := Lib.hid (hr)
  clear HG HR
  have HG := HGx
  have HR := HRx
  clear HGx HRx
  clear hr hg hi
  have hk := mine HG.out hlt
  obtain ⟨⟨d0, d1, d2, d3, d4, d5, d6, d7, d8, d9, dX⟩, g0, g1, g2, g3, g4, g5, g6, g7, g8, g9, gX⟩ := hen hk
  have hl := heap_lt' hk
  clear hk
  go_wp2_with fail
  have hn := (Nw.start ((Gr.alloc (Gr.refl R w) _).trans HG.out)).put11 (B := w.heap.size) (Nat.le_refl _) (c0 := .int .i64 qk) (c1 := .int .i64 qn) (c2 := .string (cbs qs)) (c3 := .string (cbs qo)) (c4 := .int .i64 qd) (c5 := .slice qp ql qc) (c6 := .int .i64 qa) (c7 := .int .i64 qb) (c8 := .int .i64 qr) (c9 := .int .i64 qe) (c10 := .int .i64 qf)
  exact bodyPost_ret (v := .agg #[.int .i64 qk, .int .i64 qn, .string (cbs qs), .string (cbs qo), .int .i64 qd, .slice qp ql qc, .int .i64 qa, .int .i64 qb, .int .i64 qr, .int .i64 qe, .int .i64 qf]) (by simp [results, Tryz.results179, go_sem, d0, d1, d2, d3, d4, d5, d6, d7, d8, d9, dX]) rfl ⟨_, _, _, _, _, _, _, _, _, _, _, _, _, rfl, Is.lower (Nat.le_of_lt hNBq) _ (Hiq.out.put11 hNBq), HH.out.fin HR.out hn, hn.gr⟩

set_option maxRecDepth 8000 in
set_option maxHeartbeats 2000000 in
theorem kw_new (w : World) (R M1 M2 M3 : Nat) (S : Value) (ts : List RT) (s : St) (h : Rs w R M1 M2 M3 S ts s) (HT : (peek ts s.c).text = [110, 101, 119]) (rec : Nat → St → Out) (hrec : RecOk ts rec) (x : Ex × St) (hx : creation ts rec s = some x) :
    Calls Tryz.prog 179 #[.pointer (some ⟨R, 0, none⟩)] w (ExPost w.heap.size w R M1 M2 M3 S ts (x)) := by
  have HE := Lib.hid (fun w1 hh => creation_any w1 R M1 M2 M3 S ts s hh rec hrec x hx)
  clear hrec hx
  have hp := fun w1 hh => peek_any w1 R 203 S [.int .i64 s.o, .map (some M1), .map (some M2), .map (some M3)] ts s.c hh
  generalize ht0 : peek ts s.c = t at hp HT
  unfold tokW at hp
  have hfd : ∀ w1 : World, (Instr.field 66 (.agg #[.int .i64 t.kind, .string (cbs t.text), .int .i64 t.num, .int .i64 t.at_]) 1).run Tryz.prog w1 = .ok (.string (cbs t.text)) w1 := fun _ => by kernel_rfl
  have HP := Lib.hid hp
  have HTH := Lib.hid HT
  clear hp ht0 HT
  have hb0 : Below w.heap.size w (w.alloc (.cells #[.int .i64 0, .int .i64 0, .string ⟨#[]⟩, .string ⟨#[]⟩, .int .i64 0, .slice none 0 0, .int .i64 0, .int .i64 0, .int .i64 0, .int .i64 0, .int .i64 0] 106)) := (Below.refl w.heap.size w).alloc (Nat.le_refl _) _
  have hlt := h.lt
  have HH := Lib.hid h
  have HR := Lib.hid (h.go hb0)
  have HG := Lib.hid (Gr.refl R (w.alloc (.cells #[.int .i64 0, .int .i64 0, .string ⟨#[]⟩, .string ⟨#[]⟩, .int .i64 0, .slice none 0 0, .int .i64 0, .int .i64 0, .int .i64 0, .int .i64 0, .int .i64 0] 106)))
  clear h hb0
  go_enter Tryz.func179, Tryz.ntmps179
  obtain ⟨o4, o5, o6, o7, f4⟩ := HR.out.open_
  clear o4 f4 o5 o7
  have HRD := Lib.hid (HR.out.go (Below.refl _ _).drew)
  go_wp2_with fail
  go_region_held3 (fun w' => w'.cell? ⟨R, 6, none⟩ = some (.map (some M2))) (first | exact o6 | exact oo) (first
    | (go_at_call 44; (with_reducible refine Calls.mono (HP.out _ HRD.out.cu) ?_); rintro e w1 ⟨rfl, hb⟩; have HR2 := Lib.hid (HRD.out.go hb); have HG2 := Lib.hid ((HG.out.trans (Gr.of (Below.refl _ _).drew)).trans (Gr.of hb)); clear hb; have oo := HR2.out.open_; replace oo := oo.2.2.1; have hlk := word_at3 HTH.out HR2.out.m2))
  clear HR HG HRD oo o6
  have HR := HR2
  have HG := HG2
  clear HR2 HG2
  go_wp2_with fail
  have hRBq := HR.out.lt
  have hNBq := Nat.lt_of_lt_of_le (by rw [size_alloc]; exact Nat.lt_succ_self _ : w.heap.size < (w.alloc (.cells #[.int .i64 0, .int .i64 0, .string ⟨#[]⟩, .string ⟨#[]⟩, .int .i64 0, .slice none 0 0, .int .i64 0, .int .i64 0, .int .i64 0, .int .i64 0, .int .i64 0] 106)).heap.size) HG.out.size
  refine (HE.out _ HR.out).mono ?_
  rintro e w2 ⟨qk, qn, qs, qo, qd, qp, ql, qc, qa, qb, qr, qe, qf, rfl, hi, hr, hg⟩
  have Hiq := Lib.hid hi
  have HGx := Lib.hid (HG.out.trans hg)
  have HRx := Lib.hid (hr)
  clear HG HR
  have HG := HGx
  have HR := HRx
  clear HGx HRx
  clear hr hg hi
  have hk := mine HG.out hlt
  obtain ⟨⟨d0, d1, d2, d3, d4, d5, d6, d7, d8, d9, dX⟩, g0, g1, g2, g3, g4, g5, g6, g7, g8, g9, gX⟩ := hen hk
  have hl := heap_lt' hk
  clear hk
  go_wp2_with fail
  have hn := (Nw.start ((Gr.alloc (Gr.refl R w) _).trans HG.out)).put11 (B := w.heap.size) (Nat.le_refl _) (c0 := .int .i64 qk) (c1 := .int .i64 qn) (c2 := .string (cbs qs)) (c3 := .string (cbs qo)) (c4 := .int .i64 qd) (c5 := .slice qp ql qc) (c6 := .int .i64 qa) (c7 := .int .i64 qb) (c8 := .int .i64 qr) (c9 := .int .i64 qe) (c10 := .int .i64 qf)
  exact bodyPost_ret (v := .agg #[.int .i64 qk, .int .i64 qn, .string (cbs qs), .string (cbs qo), .int .i64 qd, .slice qp ql qc, .int .i64 qa, .int .i64 qb, .int .i64 qr, .int .i64 qe, .int .i64 qf]) (by simp [results, Tryz.results179, go_sem, d0, d1, d2, d3, d4, d5, d6, d7, d8, d9, dX]) rfl ⟨_, _, _, _, _, _, _, _, _, _, _, _, _, rfl, Is.lower (Nat.le_of_lt hNBq) _ (Hiq.out.put11 hNBq), HH.out.fin HR.out hn, hn.gr⟩

set_option maxRecDepth 8000 in
set_option maxHeartbeats 2000000 in
theorem kw_len (w : World) (R M1 M2 M3 : Nat) (S : Value) (ts : List RT) (s : St) (h : Rs w R M1 M2 M3 S ts s) (HT : (peek ts s.c).text = [108, 101, 110]) (rec : Nat → St → Out) (hrec : RecOk ts rec) (x : Ex × St) (hx : length ts rec s = some x) :
    Calls Tryz.prog 179 #[.pointer (some ⟨R, 0, none⟩)] w (ExPost w.heap.size w R M1 M2 M3 S ts (x)) := by
  have HE := Lib.hid (fun w1 hh => length_any w1 R M1 M2 M3 S ts s hh rec hrec x hx)
  clear hrec hx
  have hp := fun w1 hh => peek_any w1 R 203 S [.int .i64 s.o, .map (some M1), .map (some M2), .map (some M3)] ts s.c hh
  generalize ht0 : peek ts s.c = t at hp HT
  unfold tokW at hp
  have hfd : ∀ w1 : World, (Instr.field 66 (.agg #[.int .i64 t.kind, .string (cbs t.text), .int .i64 t.num, .int .i64 t.at_]) 1).run Tryz.prog w1 = .ok (.string (cbs t.text)) w1 := fun _ => by kernel_rfl
  have HP := Lib.hid hp
  have HTH := Lib.hid HT
  clear hp ht0 HT
  have hb0 : Below w.heap.size w (w.alloc (.cells #[.int .i64 0, .int .i64 0, .string ⟨#[]⟩, .string ⟨#[]⟩, .int .i64 0, .slice none 0 0, .int .i64 0, .int .i64 0, .int .i64 0, .int .i64 0, .int .i64 0] 106)) := (Below.refl w.heap.size w).alloc (Nat.le_refl _) _
  have hlt := h.lt
  have HH := Lib.hid h
  have HR := Lib.hid (h.go hb0)
  have HG := Lib.hid (Gr.refl R (w.alloc (.cells #[.int .i64 0, .int .i64 0, .string ⟨#[]⟩, .string ⟨#[]⟩, .int .i64 0, .slice none 0 0, .int .i64 0, .int .i64 0, .int .i64 0, .int .i64 0, .int .i64 0] 106)))
  clear h hb0
  go_enter Tryz.func179, Tryz.ntmps179
  obtain ⟨o4, o5, o6, o7, f4⟩ := HR.out.open_
  clear o4 f4 o5 o7
  have HRD := Lib.hid (HR.out.go (Below.refl _ _).drew)
  go_wp2_with fail
  go_region_held3 (fun w' => w'.cell? ⟨R, 6, none⟩ = some (.map (some M2))) (first | exact o6 | exact oo) (first
    | (go_at_call 44; (with_reducible refine Calls.mono (HP.out _ HRD.out.cu) ?_); rintro e w1 ⟨rfl, hb⟩; have HR2 := Lib.hid (HRD.out.go hb); have HG2 := Lib.hid ((HG.out.trans (Gr.of (Below.refl _ _).drew)).trans (Gr.of hb)); clear hb; have oo := HR2.out.open_; replace oo := oo.2.2.1; have hlk := word_at4 HTH.out HR2.out.m2))
  clear HR HG HRD oo o6
  have HR := HR2
  have HG := HG2
  clear HR2 HG2
  go_wp2_with fail
  have hRBq := HR.out.lt
  have hNBq := Nat.lt_of_lt_of_le (by rw [size_alloc]; exact Nat.lt_succ_self _ : w.heap.size < (w.alloc (.cells #[.int .i64 0, .int .i64 0, .string ⟨#[]⟩, .string ⟨#[]⟩, .int .i64 0, .slice none 0 0, .int .i64 0, .int .i64 0, .int .i64 0, .int .i64 0, .int .i64 0] 106)).heap.size) HG.out.size
  refine (HE.out _ HR.out).mono ?_
  rintro e w2 ⟨qk, qn, qs, qo, qd, qp, ql, qc, qa, qb, qr, qe, qf, rfl, hi, hr, hg⟩
  have Hiq := Lib.hid hi
  have HGx := Lib.hid (HG.out.trans hg)
  have HRx := Lib.hid (hr)
  clear HG HR
  have HG := HGx
  have HR := HRx
  clear HGx HRx
  clear hr hg hi
  have hk := mine HG.out hlt
  obtain ⟨⟨d0, d1, d2, d3, d4, d5, d6, d7, d8, d9, dX⟩, g0, g1, g2, g3, g4, g5, g6, g7, g8, g9, gX⟩ := hen hk
  have hl := heap_lt' hk
  clear hk
  go_wp2_with fail
  have hn := (Nw.start ((Gr.alloc (Gr.refl R w) _).trans HG.out)).put11 (B := w.heap.size) (Nat.le_refl _) (c0 := .int .i64 qk) (c1 := .int .i64 qn) (c2 := .string (cbs qs)) (c3 := .string (cbs qo)) (c4 := .int .i64 qd) (c5 := .slice qp ql qc) (c6 := .int .i64 qa) (c7 := .int .i64 qb) (c8 := .int .i64 qr) (c9 := .int .i64 qe) (c10 := .int .i64 qf)
  exact bodyPost_ret (v := .agg #[.int .i64 qk, .int .i64 qn, .string (cbs qs), .string (cbs qo), .int .i64 qd, .slice qp ql qc, .int .i64 qa, .int .i64 qb, .int .i64 qr, .int .i64 qe, .int .i64 qf]) (by simp [results, Tryz.results179, go_sem, d0, d1, d2, d3, d4, d5, d6, d7, d8, d9, dX]) rfl ⟨_, _, _, _, _, _, _, _, _, _, _, _, _, rfl, Is.lower (Nat.le_of_lt hNBq) _ (Hiq.out.put11 hNBq), HH.out.fin HR.out hn, hn.gr⟩

set_option maxRecDepth 8000 in
set_option maxHeartbeats 2000000 in
theorem kw_read (w : World) (R M1 M2 M3 : Nat) (S : Value) (ts : List RT) (s : St) (h : Rs w R M1 M2 M3 S ts s) (HT : (peek ts s.c).text = [114, 101, 97, 100]) :
    Calls Tryz.prog 179 #[.pointer (some ⟨R, 0, none⟩)] w (ExPost w.heap.size w R M1 M2 M3 S ts (input ts s)) := by
  have HE := Lib.hid (fun w1 hh => input_any w1 R M1 M2 M3 S ts s hh)
  generalize hres : (input ts s) = res at HE ⊢
  clear hres
  have hp := fun w1 hh => peek_any w1 R 203 S [.int .i64 s.o, .map (some M1), .map (some M2), .map (some M3)] ts s.c hh
  generalize ht0 : peek ts s.c = t at hp HT
  unfold tokW at hp
  have hfd : ∀ w1 : World, (Instr.field 66 (.agg #[.int .i64 t.kind, .string (cbs t.text), .int .i64 t.num, .int .i64 t.at_]) 1).run Tryz.prog w1 = .ok (.string (cbs t.text)) w1 := fun _ => by kernel_rfl
  have HP := Lib.hid hp
  have HTH := Lib.hid HT
  clear hp ht0 HT
  have hb0 : Below w.heap.size w (w.alloc (.cells #[.int .i64 0, .int .i64 0, .string ⟨#[]⟩, .string ⟨#[]⟩, .int .i64 0, .slice none 0 0, .int .i64 0, .int .i64 0, .int .i64 0, .int .i64 0, .int .i64 0] 106)) := (Below.refl w.heap.size w).alloc (Nat.le_refl _) _
  have hlt := h.lt
  have HH := Lib.hid h
  have HR := Lib.hid (h.go hb0)
  have HG := Lib.hid (Gr.refl R (w.alloc (.cells #[.int .i64 0, .int .i64 0, .string ⟨#[]⟩, .string ⟨#[]⟩, .int .i64 0, .slice none 0 0, .int .i64 0, .int .i64 0, .int .i64 0, .int .i64 0, .int .i64 0] 106)))
  clear h hb0
  go_enter Tryz.func179, Tryz.ntmps179
  obtain ⟨o4, o5, o6, o7, f4⟩ := HR.out.open_
  clear o4 f4 o5 o7
  have HRD := Lib.hid (HR.out.go (Below.refl _ _).drew)
  go_wp2_with fail
  go_region_held3 (fun w' => w'.cell? ⟨R, 6, none⟩ = some (.map (some M2))) (first | exact o6 | exact oo) (first
    | (go_at_call 44; (with_reducible refine Calls.mono (HP.out _ HRD.out.cu) ?_); rintro e w1 ⟨rfl, hb⟩; have HR2 := Lib.hid (HRD.out.go hb); have HG2 := Lib.hid ((HG.out.trans (Gr.of (Below.refl _ _).drew)).trans (Gr.of hb)); clear hb; have oo := HR2.out.open_; replace oo := oo.2.2.1; have hlk := word_at5 HTH.out HR2.out.m2))
  clear HR HG HRD oo o6
  have HR := HR2
  have HG := HG2
  clear HR2 HG2
  go_wp2_with fail
  have hRBq := HR.out.lt
  have hNBq := Nat.lt_of_lt_of_le (by rw [size_alloc]; exact Nat.lt_succ_self _ : w.heap.size < (w.alloc (.cells #[.int .i64 0, .int .i64 0, .string ⟨#[]⟩, .string ⟨#[]⟩, .int .i64 0, .slice none 0 0, .int .i64 0, .int .i64 0, .int .i64 0, .int .i64 0, .int .i64 0] 106)).heap.size) HG.out.size
  refine (HE.out _ HR.out).mono ?_
  rintro e w2 ⟨qk, qn, qs, qo, qd, qp, ql, qc, qa, qb, qr, qe, qf, rfl, hi, hr, hg⟩
  have Hiq := Lib.hid hi
  have HGx := Lib.hid (HG.out.trans hg)
  have HRx := Lib.hid (hr)
  clear HG HR
  have HG := HGx
  have HR := HRx
  clear HGx HRx
  clear hr hg hi
  have hk := mine HG.out hlt
  obtain ⟨⟨d0, d1, d2, d3, d4, d5, d6, d7, d8, d9, dX⟩, g0, g1, g2, g3, g4, g5, g6, g7, g8, g9, gX⟩ := hen hk
  have hl := heap_lt' hk
  clear hk
  go_wp2_with fail
  have hn := (Nw.start ((Gr.alloc (Gr.refl R w) _).trans HG.out)).put11 (B := w.heap.size) (Nat.le_refl _) (c0 := .int .i64 qk) (c1 := .int .i64 qn) (c2 := .string (cbs qs)) (c3 := .string (cbs qo)) (c4 := .int .i64 qd) (c5 := .slice qp ql qc) (c6 := .int .i64 qa) (c7 := .int .i64 qb) (c8 := .int .i64 qr) (c9 := .int .i64 qe) (c10 := .int .i64 qf)
  exact bodyPost_ret (v := .agg #[.int .i64 qk, .int .i64 qn, .string (cbs qs), .string (cbs qo), .int .i64 qd, .slice qp ql qc, .int .i64 qa, .int .i64 qb, .int .i64 qr, .int .i64 qe, .int .i64 qf]) (by simp [results, Tryz.results179, go_sem, d0, d1, d2, d3, d4, d5, d6, d7, d8, d9, dX]) rfl ⟨_, _, _, _, _, _, _, _, _, _, _, _, _, rfl, Is.lower (Nat.le_of_lt hNBq) _ (Hiq.out.put11 hNBq), HH.out.fin HR.out hn, hn.gr⟩

set_option maxRecDepth 8000 in
set_option maxHeartbeats 2000000 in
theorem kw_none (w : World) (R M1 M2 M3 : Nat) (S : Value) (ts : List RT) (s : St) (h : Rs w R M1 M2 M3 S ts s) (HT : (peek ts s.c).text ≠ [116, 114, 117, 101] ∧ (peek ts s.c).text ≠ [102, 97, 108, 115, 101] ∧ (peek ts s.c).text ≠ [110, 117, 108, 108] ∧ (peek ts s.c).text ≠ [110, 101, 119] ∧ (peek ts s.c).text ≠ [108, 101, 110] ∧ (peek ts s.c).text ≠ [114, 101, 97, 100]) :
    Calls Tryz.prog 179 #[.pointer (some ⟨R, 0, none⟩)] w (ExPost w.heap.size w R M1 M2 M3 S ts (refuse ts s)) := by
  have HE := Lib.hid (fun w1 hh => refuse_any w1 R M1 M2 M3 S ts s hh)
  generalize hres : (refuse ts s) = res at HE ⊢
  clear hres
  have hp := fun w1 hh => peek_any w1 R 203 S [.int .i64 s.o, .map (some M1), .map (some M2), .map (some M3)] ts s.c hh
  generalize ht0 : peek ts s.c = t at hp HT
  unfold tokW at hp
  have hfd : ∀ w1 : World, (Instr.field 66 (.agg #[.int .i64 t.kind, .string (cbs t.text), .int .i64 t.num, .int .i64 t.at_]) 1).run Tryz.prog w1 = .ok (.string (cbs t.text)) w1 := fun _ => by kernel_rfl
  have HP := Lib.hid hp
  have HTH := Lib.hid HT
  clear hp ht0 HT
  have hb0 : Below w.heap.size w (w.alloc (.cells #[.int .i64 0, .int .i64 0, .string ⟨#[]⟩, .string ⟨#[]⟩, .int .i64 0, .slice none 0 0, .int .i64 0, .int .i64 0, .int .i64 0, .int .i64 0, .int .i64 0] 106)) := (Below.refl w.heap.size w).alloc (Nat.le_refl _) _
  have hlt := h.lt
  have HH := Lib.hid h
  have HR := Lib.hid (h.go hb0)
  have HG := Lib.hid (Gr.refl R (w.alloc (.cells #[.int .i64 0, .int .i64 0, .string ⟨#[]⟩, .string ⟨#[]⟩, .int .i64 0, .slice none 0 0, .int .i64 0, .int .i64 0, .int .i64 0, .int .i64 0, .int .i64 0] 106)))
  clear h hb0
  go_enter Tryz.func179, Tryz.ntmps179
  obtain ⟨o4, o5, o6, o7, f4⟩ := HR.out.open_
  clear o4 f4 o5 o7
  have HRD := Lib.hid (HR.out.go (Below.refl _ _).drew)
  go_wp2_with fail
  go_region_held3 (fun w' => w'.cell? ⟨R, 6, none⟩ = some (.map (some M2))) (first | exact o6 | exact oo) (first
    | (go_at_call 44; (with_reducible refine Calls.mono (HP.out _ HRD.out.cu) ?_); rintro e w1 ⟨rfl, hb⟩; have HR2 := Lib.hid (HRD.out.go hb); have HG2 := Lib.hid ((HG.out.trans (Gr.of (Below.refl _ _).drew)).trans (Gr.of hb)); clear hb; have oo := HR2.out.open_; replace oo := oo.2.2.1; have hlk := word_hit_miss (cbs t.text) (cbs_ne HTH.out.1) (cbs_ne HTH.out.2.1) (cbs_ne HTH.out.2.2.1) (cbs_ne HTH.out.2.2.2.1) (cbs_ne HTH.out.2.2.2.2.1) (cbs_ne HTH.out.2.2.2.2.2) HR2.out.m2))
  clear HR HG HRD oo o6
  have HR := HR2
  have HG := HG2
  clear HR2 HG2
  go_wp2_with fail
  have hRBq := HR.out.lt
  have hNBq := Nat.lt_of_lt_of_le (by rw [size_alloc]; exact Nat.lt_succ_self _ : w.heap.size < (w.alloc (.cells #[.int .i64 0, .int .i64 0, .string ⟨#[]⟩, .string ⟨#[]⟩, .int .i64 0, .slice none 0 0, .int .i64 0, .int .i64 0, .int .i64 0, .int .i64 0, .int .i64 0] 106)).heap.size) HG.out.size
  refine (HE.out _ HR.out).mono ?_
  rintro e w2 ⟨qk, qn, qs, qo, qd, qp, ql, qc, qa, qb, qr, qe, qf, rfl, hi, hr, hg⟩
  have Hiq := Lib.hid hi
  have HGx := Lib.hid (HG.out.trans hg)
  have HRx := Lib.hid (hr)
  clear HG HR
  have HG := HGx
  have HR := HRx
  clear HGx HRx
  clear hr hg hi
  have hk := mine HG.out hlt
  obtain ⟨⟨d0, d1, d2, d3, d4, d5, d6, d7, d8, d9, dX⟩, g0, g1, g2, g3, g4, g5, g6, g7, g8, g9, gX⟩ := hen hk
  have hl := heap_lt' hk
  clear hk
  go_wp2_with fail
  have hn := (Nw.start ((Gr.alloc (Gr.refl R w) _).trans HG.out)).put11 (B := w.heap.size) (Nat.le_refl _) (c0 := .int .i64 qk) (c1 := .int .i64 qn) (c2 := .string (cbs qs)) (c3 := .string (cbs qo)) (c4 := .int .i64 qd) (c5 := .slice qp ql qc) (c6 := .int .i64 qa) (c7 := .int .i64 qb) (c8 := .int .i64 qr) (c9 := .int .i64 qe) (c10 := .int .i64 qf)
  exact bodyPost_ret (v := .agg #[.int .i64 qk, .int .i64 qn, .string (cbs qs), .string (cbs qo), .int .i64 qd, .slice qp ql qc, .int .i64 qa, .int .i64 qb, .int .i64 qr, .int .i64 qe, .int .i64 qf]) (by simp [results, Tryz.results179, go_sem, d0, d1, d2, d3, d4, d5, d6, d7, d8, d9, dX]) rfl ⟨_, _, _, _, _, _, _, _, _, _, _, _, _, rfl, Is.lower (Nat.le_of_lt hNBq) _ (Hiq.out.put11 hNBq), HH.out.fin HR.out hn, hn.gr⟩

set_option maxRecDepth 8000 in
set_option maxHeartbeats 2000000 in
theorem keyword_any (w : World) (R M1 M2 M3 : Nat) (S : Value) (ts : List RT) (s : St) (h : Rs w R M1 M2 M3 S ts s) (rec : Nat → St → Out) (hrec : RecOk ts rec) (x : Ex × St) (hx : keyword ts rec s = some x) :
    Calls Tryz.prog 179 #[.pointer (some ⟨R, 0, none⟩)] w (ExPost w.heap.size w R M1 M2 M3 S ts x) := by
  simp only [keyword] at hx
  by_cases h0 : (peek ts s.c).text = [116, 114, 117, 101]
  · rw [if_pos h0] at hx
    injection hx with hx
    subst hx
    exact kw_true w R M1 M2 M3 S ts s h h0
  rw [if_neg h0] at hx
  by_cases h1 : (peek ts s.c).text = [102, 97, 108, 115, 101]
  · rw [if_pos h1] at hx
    injection hx with hx
    subst hx
    exact kw_false w R M1 M2 M3 S ts s h h1
  rw [if_neg h1] at hx
  by_cases h2 : (peek ts s.c).text = [110, 117, 108, 108]
  · rw [if_pos h2] at hx
    injection hx with hx
    subst hx
    exact kw_null w R M1 M2 M3 S ts s h h2
  rw [if_neg h2] at hx
  by_cases h3 : (peek ts s.c).text = [110, 101, 119]
  · rw [if_pos h3] at hx
    exact kw_new w R M1 M2 M3 S ts s h h3 rec hrec x hx
  rw [if_neg h3] at hx
  by_cases h4 : (peek ts s.c).text = [108, 101, 110]
  · rw [if_pos h4] at hx
    exact kw_len w R M1 M2 M3 S ts s h h4 rec hrec x hx
  rw [if_neg h4] at hx
  by_cases h5 : (peek ts s.c).text = [114, 101, 97, 100]
  · rw [if_pos h5] at hx
    injection hx with hx
    subst hx
    exact kw_read w R M1 M2 M3 S ts s h h5
  rw [if_neg h5] at hx
  injection hx with hx
  subst hx
  exact kw_none w R M1 M2 M3 S ts s h ⟨h0, h1, h2, h3, h4, h5⟩

set_option maxRecDepth 8000 in
set_option maxHeartbeats 2000000 in
theorem pr_voc (w : World) (R M1 M2 M3 : Nat) (S : Value) (ts : List RT) (s : St) (h : Rs w R M1 M2 M3 S ts s) (HT : (peek ts s.c).kind = 1) (rec : Nat → St → Out) (hrec : RecOk ts rec) (gg : Nat) (hg : gg ≤ 1000000000) (x : Ex × St) (hx : varOrCall ts rec gg s = some x) :
    Calls Tryz.prog 196 #[.pointer (some ⟨R, 0, none⟩)] w (ExPost w.heap.size w R M1 M2 M3 S ts (x)) := by
  have HE := Lib.hid (fun w1 hh => voc_any w1 R M1 M2 M3 S ts s hh rec hrec gg hg x hx)
  clear hrec hg hx
  have hp := fun w1 hh => peek_any w1 R 203 S [.int .i64 s.o, .map (some M1), .map (some M2), .map (some M3)] ts s.c hh
  generalize ht0 : peek ts s.c = t at hp HT
  unfold tokW at hp
  have hfd : ∀ w1 : World, (Instr.field 66 (.agg #[.int .i64 t.kind, .string (cbs t.text), .int .i64 t.num, .int .i64 t.at_]) 0).run Tryz.prog w1 = .ok (.int .i64 t.kind) w1 := fun _ => by kernel_rfl
  have HP := Lib.hid hp
  have HTH := Lib.hid HT
  clear hp ht0 HT
  have hb0 : Below w.heap.size w (w.alloc (.cells #[.int .i64 0, .int .i64 0, .string ⟨#[]⟩, .string ⟨#[]⟩, .int .i64 0, .slice none 0 0, .int .i64 0, .int .i64 0, .int .i64 0, .int .i64 0, .int .i64 0] 106)) := (Below.refl w.heap.size w).alloc (Nat.le_refl _) _
  have hlt := h.lt
  have HH := Lib.hid h
  have HR := Lib.hid (h.go hb0)
  have HG := Lib.hid (Gr.refl R (w.alloc (.cells #[.int .i64 0, .int .i64 0, .string ⟨#[]⟩, .string ⟨#[]⟩, .int .i64 0, .slice none 0 0, .int .i64 0, .int .i64 0, .int .i64 0, .int .i64 0, .int .i64 0] 106)))
  clear h hb0
  go_enter Tryz.func196, Tryz.ntmps196
  obtain ⟨o4, o5, o6, o7, f4⟩ := HR.out.open_
  clear o4 f4 o6 o7
  have HRD := Lib.hid (HR.out.go (Below.refl _ _).drew)
  go_wp2_with fail
  go_region_held3 (fun w' => w'.cell? ⟨R, 5, none⟩ = some (.map (some M1))) (first | exact o5 | exact oo) (first
    | (go_at_call 44; (with_reducible refine Calls.mono (HP.out _ HRD.out.cu) ?_); rintro e w1 ⟨rfl, hb⟩; have HR2 := Lib.hid (HRD.out.go hb); have HG2 := Lib.hid ((HG.out.trans (Gr.of (Below.refl _ _).drew)).trans (Gr.of hb)); clear hb; have oo := HR2.out.open_; replace oo := oo.2.1; have hlk := kind_hit R t.kind (.func (.func 178) #[.pointer (some ⟨R, 0, none⟩)] #[]) (.inl ⟨HTH.out, rfl⟩) HR2.out.m1))
  clear HR HG HRD oo o5
  have HR := HR2
  have HG := HG2
  clear HR2 HG2
  go_wp2_with fail
  have hRBq := HR.out.lt
  have hNBq := Nat.lt_of_lt_of_le (by rw [size_alloc]; exact Nat.lt_succ_self _ : w.heap.size < (w.alloc (.cells #[.int .i64 0, .int .i64 0, .string ⟨#[]⟩, .string ⟨#[]⟩, .int .i64 0, .slice none 0 0, .int .i64 0, .int .i64 0, .int .i64 0, .int .i64 0, .int .i64 0] 106)).heap.size) HG.out.size
  refine (HE.out _ HR.out).mono ?_
  rintro e w2 ⟨qk, qn, qs, qo, qd, qp, ql, qc, qa, qb, qr, qe, qf, rfl, hi, hr, hg⟩
  have Hiq := Lib.hid hi
  have HGx := Lib.hid (HG.out.trans hg)
  have HRx := Lib.hid (hr)
  clear HG HR
  have HG := HGx
  have HR := HRx
  clear HGx HRx
  clear hr hg hi
  have hk := mine HG.out hlt
  obtain ⟨⟨d0, d1, d2, d3, d4, d5, d6, d7, d8, d9, dX⟩, g0, g1, g2, g3, g4, g5, g6, g7, g8, g9, gX⟩ := hen hk
  have hl := heap_lt' hk
  clear hk
  go_wp2_with fail
  have hn := (Nw.start ((Gr.alloc (Gr.refl R w) _).trans HG.out)).put11 (B := w.heap.size) (Nat.le_refl _) (c0 := .int .i64 qk) (c1 := .int .i64 qn) (c2 := .string (cbs qs)) (c3 := .string (cbs qo)) (c4 := .int .i64 qd) (c5 := .slice qp ql qc) (c6 := .int .i64 qa) (c7 := .int .i64 qb) (c8 := .int .i64 qr) (c9 := .int .i64 qe) (c10 := .int .i64 qf)
  exact bodyPost_ret (v := .agg #[.int .i64 qk, .int .i64 qn, .string (cbs qs), .string (cbs qo), .int .i64 qd, .slice qp ql qc, .int .i64 qa, .int .i64 qb, .int .i64 qr, .int .i64 qe, .int .i64 qf]) (by simp [results, Tryz.results196, go_sem, d0, d1, d2, d3, d4, d5, d6, d7, d8, d9, dX]) rfl ⟨_, _, _, _, _, _, _, _, _, _, _, _, _, rfl, Is.lower (Nat.le_of_lt hNBq) _ (Hiq.out.put11 hNBq), HH.out.fin HR.out hn, hn.gr⟩

set_option maxRecDepth 8000 in
set_option maxHeartbeats 2000000 in
theorem pr_num (w : World) (R M1 M2 M3 : Nat) (S : Value) (ts : List RT) (s : St) (h : Rs w R M1 M2 M3 S ts s) (HT : (peek ts s.c).kind = 2) :
    Calls Tryz.prog 196 #[.pointer (some ⟨R, 0, none⟩)] w (ExPost w.heap.size w R M1 M2 M3 S ts (number ts s)) := by
  have HE := Lib.hid (fun w1 hh => number_any w1 R M1 M2 M3 S ts s hh)
  generalize hres : (number ts s) = res at HE ⊢
  clear hres
  have hp := fun w1 hh => peek_any w1 R 203 S [.int .i64 s.o, .map (some M1), .map (some M2), .map (some M3)] ts s.c hh
  generalize ht0 : peek ts s.c = t at hp HT
  unfold tokW at hp
  have hfd : ∀ w1 : World, (Instr.field 66 (.agg #[.int .i64 t.kind, .string (cbs t.text), .int .i64 t.num, .int .i64 t.at_]) 0).run Tryz.prog w1 = .ok (.int .i64 t.kind) w1 := fun _ => by kernel_rfl
  have HP := Lib.hid hp
  have HTH := Lib.hid HT
  clear hp ht0 HT
  have hb0 : Below w.heap.size w (w.alloc (.cells #[.int .i64 0, .int .i64 0, .string ⟨#[]⟩, .string ⟨#[]⟩, .int .i64 0, .slice none 0 0, .int .i64 0, .int .i64 0, .int .i64 0, .int .i64 0, .int .i64 0] 106)) := (Below.refl w.heap.size w).alloc (Nat.le_refl _) _
  have hlt := h.lt
  have HH := Lib.hid h
  have HR := Lib.hid (h.go hb0)
  have HG := Lib.hid (Gr.refl R (w.alloc (.cells #[.int .i64 0, .int .i64 0, .string ⟨#[]⟩, .string ⟨#[]⟩, .int .i64 0, .slice none 0 0, .int .i64 0, .int .i64 0, .int .i64 0, .int .i64 0, .int .i64 0] 106)))
  clear h hb0
  go_enter Tryz.func196, Tryz.ntmps196
  obtain ⟨o4, o5, o6, o7, f4⟩ := HR.out.open_
  clear o4 f4 o6 o7
  have HRD := Lib.hid (HR.out.go (Below.refl _ _).drew)
  go_wp2_with fail
  go_region_held3 (fun w' => w'.cell? ⟨R, 5, none⟩ = some (.map (some M1))) (first | exact o5 | exact oo) (first
    | (go_at_call 44; (with_reducible refine Calls.mono (HP.out _ HRD.out.cu) ?_); rintro e w1 ⟨rfl, hb⟩; have HR2 := Lib.hid (HRD.out.go hb); have HG2 := Lib.hid ((HG.out.trans (Gr.of (Below.refl _ _).drew)).trans (Gr.of hb)); clear hb; have oo := HR2.out.open_; replace oo := oo.2.1; have hlk := kind_hit R t.kind (.func (.func 177) #[.pointer (some ⟨R, 0, none⟩)] #[]) (.inr (.inl ⟨HTH.out, rfl⟩)) HR2.out.m1))
  clear HR HG HRD oo o5
  have HR := HR2
  have HG := HG2
  clear HR2 HG2
  go_wp2_with fail
  have hRBq := HR.out.lt
  have hNBq := Nat.lt_of_lt_of_le (by rw [size_alloc]; exact Nat.lt_succ_self _ : w.heap.size < (w.alloc (.cells #[.int .i64 0, .int .i64 0, .string ⟨#[]⟩, .string ⟨#[]⟩, .int .i64 0, .slice none 0 0, .int .i64 0, .int .i64 0, .int .i64 0, .int .i64 0, .int .i64 0] 106)).heap.size) HG.out.size
  refine (HE.out _ HR.out).mono ?_
  rintro e w2 ⟨qk, qn, qs, qo, qd, qp, ql, qc, qa, qb, qr, qe, qf, rfl, hi, hr, hg⟩
  have Hiq := Lib.hid hi
  have HGx := Lib.hid (HG.out.trans hg)
  have HRx := Lib.hid (hr)
  clear HG HR
  have HG := HGx
  have HR := HRx
  clear HGx HRx
  clear hr hg hi
  have hk := mine HG.out hlt
  obtain ⟨⟨d0, d1, d2, d3, d4, d5, d6, d7, d8, d9, dX⟩, g0, g1, g2, g3, g4, g5, g6, g7, g8, g9, gX⟩ := hen hk
  have hl := heap_lt' hk
  clear hk
  go_wp2_with fail
  have hn := (Nw.start ((Gr.alloc (Gr.refl R w) _).trans HG.out)).put11 (B := w.heap.size) (Nat.le_refl _) (c0 := .int .i64 qk) (c1 := .int .i64 qn) (c2 := .string (cbs qs)) (c3 := .string (cbs qo)) (c4 := .int .i64 qd) (c5 := .slice qp ql qc) (c6 := .int .i64 qa) (c7 := .int .i64 qb) (c8 := .int .i64 qr) (c9 := .int .i64 qe) (c10 := .int .i64 qf)
  exact bodyPost_ret (v := .agg #[.int .i64 qk, .int .i64 qn, .string (cbs qs), .string (cbs qo), .int .i64 qd, .slice qp ql qc, .int .i64 qa, .int .i64 qb, .int .i64 qr, .int .i64 qe, .int .i64 qf]) (by simp [results, Tryz.results196, go_sem, d0, d1, d2, d3, d4, d5, d6, d7, d8, d9, dX]) rfl ⟨_, _, _, _, _, _, _, _, _, _, _, _, _, rfl, Is.lower (Nat.le_of_lt hNBq) _ (Hiq.out.put11 hNBq), HH.out.fin HR.out hn, hn.gr⟩

set_option maxRecDepth 8000 in
set_option maxHeartbeats 2000000 in
theorem pr_kw (w : World) (R M1 M2 M3 : Nat) (S : Value) (ts : List RT) (s : St) (h : Rs w R M1 M2 M3 S ts s) (HT : (peek ts s.c).kind = 3) (rec : Nat → St → Out) (hrec : RecOk ts rec) (x : Ex × St) (hx : keyword ts rec s = some x) :
    Calls Tryz.prog 196 #[.pointer (some ⟨R, 0, none⟩)] w (ExPost w.heap.size w R M1 M2 M3 S ts (x)) := by
  have HE := Lib.hid (fun w1 hh => keyword_any w1 R M1 M2 M3 S ts s hh rec hrec x hx)
  clear hrec hx
  have hp := fun w1 hh => peek_any w1 R 203 S [.int .i64 s.o, .map (some M1), .map (some M2), .map (some M3)] ts s.c hh
  generalize ht0 : peek ts s.c = t at hp HT
  unfold tokW at hp
  have hfd : ∀ w1 : World, (Instr.field 66 (.agg #[.int .i64 t.kind, .string (cbs t.text), .int .i64 t.num, .int .i64 t.at_]) 0).run Tryz.prog w1 = .ok (.int .i64 t.kind) w1 := fun _ => by kernel_rfl
  have HP := Lib.hid hp
  have HTH := Lib.hid HT
  clear hp ht0 HT
  have hb0 : Below w.heap.size w (w.alloc (.cells #[.int .i64 0, .int .i64 0, .string ⟨#[]⟩, .string ⟨#[]⟩, .int .i64 0, .slice none 0 0, .int .i64 0, .int .i64 0, .int .i64 0, .int .i64 0, .int .i64 0] 106)) := (Below.refl w.heap.size w).alloc (Nat.le_refl _) _
  have hlt := h.lt
  have HH := Lib.hid h
  have HR := Lib.hid (h.go hb0)
  have HG := Lib.hid (Gr.refl R (w.alloc (.cells #[.int .i64 0, .int .i64 0, .string ⟨#[]⟩, .string ⟨#[]⟩, .int .i64 0, .slice none 0 0, .int .i64 0, .int .i64 0, .int .i64 0, .int .i64 0, .int .i64 0] 106)))
  clear h hb0
  go_enter Tryz.func196, Tryz.ntmps196
  obtain ⟨o4, o5, o6, o7, f4⟩ := HR.out.open_
  clear o4 f4 o6 o7
  have HRD := Lib.hid (HR.out.go (Below.refl _ _).drew)
  go_wp2_with fail
  go_region_held3 (fun w' => w'.cell? ⟨R, 5, none⟩ = some (.map (some M1))) (first | exact o5 | exact oo) (first
    | (go_at_call 44; (with_reducible refine Calls.mono (HP.out _ HRD.out.cu) ?_); rintro e w1 ⟨rfl, hb⟩; have HR2 := Lib.hid (HRD.out.go hb); have HG2 := Lib.hid ((HG.out.trans (Gr.of (Below.refl _ _).drew)).trans (Gr.of hb)); clear hb; have oo := HR2.out.open_; replace oo := oo.2.1; have hlk := kind_hit R t.kind (.func (.func 179) #[.pointer (some ⟨R, 0, none⟩)] #[]) (.inr (.inr (.inl ⟨HTH.out, rfl⟩))) HR2.out.m1))
  clear HR HG HRD oo o5
  have HR := HR2
  have HG := HG2
  clear HR2 HG2
  go_wp2_with fail
  have hRBq := HR.out.lt
  have hNBq := Nat.lt_of_lt_of_le (by rw [size_alloc]; exact Nat.lt_succ_self _ : w.heap.size < (w.alloc (.cells #[.int .i64 0, .int .i64 0, .string ⟨#[]⟩, .string ⟨#[]⟩, .int .i64 0, .slice none 0 0, .int .i64 0, .int .i64 0, .int .i64 0, .int .i64 0, .int .i64 0] 106)).heap.size) HG.out.size
  refine (HE.out _ HR.out).mono ?_
  rintro e w2 ⟨qk, qn, qs, qo, qd, qp, ql, qc, qa, qb, qr, qe, qf, rfl, hi, hr, hg⟩
  have Hiq := Lib.hid hi
  have HGx := Lib.hid (HG.out.trans hg)
  have HRx := Lib.hid (hr)
  clear HG HR
  have HG := HGx
  have HR := HRx
  clear HGx HRx
  clear hr hg hi
  have hk := mine HG.out hlt
  obtain ⟨⟨d0, d1, d2, d3, d4, d5, d6, d7, d8, d9, dX⟩, g0, g1, g2, g3, g4, g5, g6, g7, g8, g9, gX⟩ := hen hk
  have hl := heap_lt' hk
  clear hk
  go_wp2_with fail
  have hn := (Nw.start ((Gr.alloc (Gr.refl R w) _).trans HG.out)).put11 (B := w.heap.size) (Nat.le_refl _) (c0 := .int .i64 qk) (c1 := .int .i64 qn) (c2 := .string (cbs qs)) (c3 := .string (cbs qo)) (c4 := .int .i64 qd) (c5 := .slice qp ql qc) (c6 := .int .i64 qa) (c7 := .int .i64 qb) (c8 := .int .i64 qr) (c9 := .int .i64 qe) (c10 := .int .i64 qf)
  exact bodyPost_ret (v := .agg #[.int .i64 qk, .int .i64 qn, .string (cbs qs), .string (cbs qo), .int .i64 qd, .slice qp ql qc, .int .i64 qa, .int .i64 qb, .int .i64 qr, .int .i64 qe, .int .i64 qf]) (by simp [results, Tryz.results196, go_sem, d0, d1, d2, d3, d4, d5, d6, d7, d8, d9, dX]) rfl ⟨_, _, _, _, _, _, _, _, _, _, _, _, _, rfl, Is.lower (Nat.le_of_lt hNBq) _ (Hiq.out.put11 hNBq), HH.out.fin HR.out hn, hn.gr⟩

set_option maxRecDepth 8000 in
set_option maxHeartbeats 2000000 in
theorem pr_par (w : World) (R M1 M2 M3 : Nat) (S : Value) (ts : List RT) (s : St) (h : Rs w R M1 M2 M3 S ts s) (HT : (peek ts s.c).kind = 4) (rec : Nat → St → Out) (hrec : RecOk ts rec) (x : Ex × St) (hx : enclosed ts rec s [40] [41] = some x) :
    Calls Tryz.prog 196 #[.pointer (some ⟨R, 0, none⟩)] w (ExPost w.heap.size w R M1 M2 M3 S ts (x)) := by
  have HE := Lib.hid (fun w1 hh => paren_any w1 R M1 M2 M3 S ts s hh rec hrec x hx)
  clear hrec hx
  have hp := fun w1 hh => peek_any w1 R 203 S [.int .i64 s.o, .map (some M1), .map (some M2), .map (some M3)] ts s.c hh
  generalize ht0 : peek ts s.c = t at hp HT
  unfold tokW at hp
  have hfd : ∀ w1 : World, (Instr.field 66 (.agg #[.int .i64 t.kind, .string (cbs t.text), .int .i64 t.num, .int .i64 t.at_]) 0).run Tryz.prog w1 = .ok (.int .i64 t.kind) w1 := fun _ => by kernel_rfl
  have HP := Lib.hid hp
  have HTH := Lib.hid HT
  clear hp ht0 HT
  have hb0 : Below w.heap.size w (w.alloc (.cells #[.int .i64 0, .int .i64 0, .string ⟨#[]⟩, .string ⟨#[]⟩, .int .i64 0, .slice none 0 0, .int .i64 0, .int .i64 0, .int .i64 0, .int .i64 0, .int .i64 0] 106)) := (Below.refl w.heap.size w).alloc (Nat.le_refl _) _
  have hlt := h.lt
  have HH := Lib.hid h
  have HR := Lib.hid (h.go hb0)
  have HG := Lib.hid (Gr.refl R (w.alloc (.cells #[.int .i64 0, .int .i64 0, .string ⟨#[]⟩, .string ⟨#[]⟩, .int .i64 0, .slice none 0 0, .int .i64 0, .int .i64 0, .int .i64 0, .int .i64 0, .int .i64 0] 106)))
  clear h hb0
  go_enter Tryz.func196, Tryz.ntmps196
  obtain ⟨o4, o5, o6, o7, f4⟩ := HR.out.open_
  clear o4 f4 o6 o7
  have HRD := Lib.hid (HR.out.go (Below.refl _ _).drew)
  go_wp2_with fail
  go_region_held3 (fun w' => w'.cell? ⟨R, 5, none⟩ = some (.map (some M1))) (first | exact o5 | exact oo) (first
    | (go_at_call 44; (with_reducible refine Calls.mono (HP.out _ HRD.out.cu) ?_); rintro e w1 ⟨rfl, hb⟩; have HR2 := Lib.hid (HRD.out.go hb); have HG2 := Lib.hid ((HG.out.trans (Gr.of (Below.refl _ _).drew)).trans (Gr.of hb)); clear hb; have oo := HR2.out.open_; replace oo := oo.2.1; have hlk := kind_hit R t.kind (.func (.func 180) #[.pointer (some ⟨R, 0, none⟩)] #[]) (.inr (.inr (.inr ⟨HTH.out, rfl⟩))) HR2.out.m1))
  clear HR HG HRD oo o5
  have HR := HR2
  have HG := HG2
  clear HR2 HG2
  go_wp2_with fail
  have hRBq := HR.out.lt
  have hNBq := Nat.lt_of_lt_of_le (by rw [size_alloc]; exact Nat.lt_succ_self _ : w.heap.size < (w.alloc (.cells #[.int .i64 0, .int .i64 0, .string ⟨#[]⟩, .string ⟨#[]⟩, .int .i64 0, .slice none 0 0, .int .i64 0, .int .i64 0, .int .i64 0, .int .i64 0, .int .i64 0] 106)).heap.size) HG.out.size
  refine (HE.out _ HR.out).mono ?_
  rintro e w2 ⟨qk, qn, qs, qo, qd, qp, ql, qc, qa, qb, qr, qe, qf, rfl, hi, hr, hg⟩
  have Hiq := Lib.hid hi
  have HGx := Lib.hid (HG.out.trans hg)
  have HRx := Lib.hid (hr)
  clear HG HR
  have HG := HGx
  have HR := HRx
  clear HGx HRx
  clear hr hg hi
  have hk := mine HG.out hlt
  obtain ⟨⟨d0, d1, d2, d3, d4, d5, d6, d7, d8, d9, dX⟩, g0, g1, g2, g3, g4, g5, g6, g7, g8, g9, gX⟩ := hen hk
  have hl := heap_lt' hk
  clear hk
  go_wp2_with fail
  have hn := (Nw.start ((Gr.alloc (Gr.refl R w) _).trans HG.out)).put11 (B := w.heap.size) (Nat.le_refl _) (c0 := .int .i64 qk) (c1 := .int .i64 qn) (c2 := .string (cbs qs)) (c3 := .string (cbs qo)) (c4 := .int .i64 qd) (c5 := .slice qp ql qc) (c6 := .int .i64 qa) (c7 := .int .i64 qb) (c8 := .int .i64 qr) (c9 := .int .i64 qe) (c10 := .int .i64 qf)
  exact bodyPost_ret (v := .agg #[.int .i64 qk, .int .i64 qn, .string (cbs qs), .string (cbs qo), .int .i64 qd, .slice qp ql qc, .int .i64 qa, .int .i64 qb, .int .i64 qr, .int .i64 qe, .int .i64 qf]) (by simp [results, Tryz.results196, go_sem, d0, d1, d2, d3, d4, d5, d6, d7, d8, d9, dX]) rfl ⟨_, _, _, _, _, _, _, _, _, _, _, _, _, rfl, Is.lower (Nat.le_of_lt hNBq) _ (Hiq.out.put11 hNBq), HH.out.fin HR.out hn, hn.gr⟩

set_option maxRecDepth 8000 in
set_option maxHeartbeats 2000000 in
theorem pr_none (w : World) (R M1 M2 M3 : Nat) (S : Value) (ts : List RT) (s : St) (h : Rs w R M1 M2 M3 S ts s) (HT : (peek ts s.c).kind ≠ 1 ∧ (peek ts s.c).kind ≠ 2 ∧ (peek ts s.c).kind ≠ 3 ∧ (peek ts s.c).kind ≠ 4) :
    Calls Tryz.prog 196 #[.pointer (some ⟨R, 0, none⟩)] w (ExPost w.heap.size w R M1 M2 M3 S ts (refuse ts s)) := by
  have HE := Lib.hid (fun w1 hh => refuse_any w1 R M1 M2 M3 S ts s hh)
  generalize hres : (refuse ts s) = res at HE ⊢
  clear hres
  have hp := fun w1 hh => peek_any w1 R 203 S [.int .i64 s.o, .map (some M1), .map (some M2), .map (some M3)] ts s.c hh
  generalize ht0 : peek ts s.c = t at hp HT
  unfold tokW at hp
  have hfd : ∀ w1 : World, (Instr.field 66 (.agg #[.int .i64 t.kind, .string (cbs t.text), .int .i64 t.num, .int .i64 t.at_]) 0).run Tryz.prog w1 = .ok (.int .i64 t.kind) w1 := fun _ => by kernel_rfl
  have HP := Lib.hid hp
  have HTH := Lib.hid HT
  clear hp ht0 HT
  have hb0 : Below w.heap.size w (w.alloc (.cells #[.int .i64 0, .int .i64 0, .string ⟨#[]⟩, .string ⟨#[]⟩, .int .i64 0, .slice none 0 0, .int .i64 0, .int .i64 0, .int .i64 0, .int .i64 0, .int .i64 0] 106)) := (Below.refl w.heap.size w).alloc (Nat.le_refl _) _
  have hlt := h.lt
  have HH := Lib.hid h
  have HR := Lib.hid (h.go hb0)
  have HG := Lib.hid (Gr.refl R (w.alloc (.cells #[.int .i64 0, .int .i64 0, .string ⟨#[]⟩, .string ⟨#[]⟩, .int .i64 0, .slice none 0 0, .int .i64 0, .int .i64 0, .int .i64 0, .int .i64 0, .int .i64 0] 106)))
  clear h hb0
  go_enter Tryz.func196, Tryz.ntmps196
  obtain ⟨o4, o5, o6, o7, f4⟩ := HR.out.open_
  clear o4 f4 o6 o7
  have HRD := Lib.hid (HR.out.go (Below.refl _ _).drew)
  go_wp2_with fail
  go_region_held3 (fun w' => w'.cell? ⟨R, 5, none⟩ = some (.map (some M1))) (first | exact o5 | exact oo) (first
    | (go_at_call 44; (with_reducible refine Calls.mono (HP.out _ HRD.out.cu) ?_); rintro e w1 ⟨rfl, hb⟩; have HR2 := Lib.hid (HRD.out.go hb); have HG2 := Lib.hid ((HG.out.trans (Gr.of (Below.refl _ _).drew)).trans (Gr.of hb)); clear hb; have oo := HR2.out.open_; replace oo := oo.2.1; have hlk := kind_miss R t.kind HTH.out.1 HTH.out.2.1 HTH.out.2.2.1 HTH.out.2.2.2 HR2.out.m1))
  clear HR HG HRD oo o5
  have HR := HR2
  have HG := HG2
  clear HR2 HG2
  go_wp2_with fail
  have hRBq := HR.out.lt
  have hNBq := Nat.lt_of_lt_of_le (by rw [size_alloc]; exact Nat.lt_succ_self _ : w.heap.size < (w.alloc (.cells #[.int .i64 0, .int .i64 0, .string ⟨#[]⟩, .string ⟨#[]⟩, .int .i64 0, .slice none 0 0, .int .i64 0, .int .i64 0, .int .i64 0, .int .i64 0, .int .i64 0] 106)).heap.size) HG.out.size
  refine (HE.out _ HR.out).mono ?_
  rintro e w2 ⟨qk, qn, qs, qo, qd, qp, ql, qc, qa, qb, qr, qe, qf, rfl, hi, hr, hg⟩
  have Hiq := Lib.hid hi
  have HGx := Lib.hid (HG.out.trans hg)
  have HRx := Lib.hid (hr)
  clear HG HR
  have HG := HGx
  have HR := HRx
  clear HGx HRx
  clear hr hg hi
  have hk := mine HG.out hlt
  obtain ⟨⟨d0, d1, d2, d3, d4, d5, d6, d7, d8, d9, dX⟩, g0, g1, g2, g3, g4, g5, g6, g7, g8, g9, gX⟩ := hen hk
  have hl := heap_lt' hk
  clear hk
  go_wp2_with fail
  have hn := (Nw.start ((Gr.alloc (Gr.refl R w) _).trans HG.out)).put11 (B := w.heap.size) (Nat.le_refl _) (c0 := .int .i64 qk) (c1 := .int .i64 qn) (c2 := .string (cbs qs)) (c3 := .string (cbs qo)) (c4 := .int .i64 qd) (c5 := .slice qp ql qc) (c6 := .int .i64 qa) (c7 := .int .i64 qb) (c8 := .int .i64 qr) (c9 := .int .i64 qe) (c10 := .int .i64 qf)
  exact bodyPost_ret (v := .agg #[.int .i64 qk, .int .i64 qn, .string (cbs qs), .string (cbs qo), .int .i64 qd, .slice qp ql qc, .int .i64 qa, .int .i64 qb, .int .i64 qr, .int .i64 qe, .int .i64 qf]) (by simp [results, Tryz.results196, go_sem, d0, d1, d2, d3, d4, d5, d6, d7, d8, d9, dX]) rfl ⟨_, _, _, _, _, _, _, _, _, _, _, _, _, rfl, Is.lower (Nat.le_of_lt hNBq) _ (Hiq.out.put11 hNBq), HH.out.fin HR.out hn, hn.gr⟩

set_option maxRecDepth 8000 in
set_option maxHeartbeats 2000000 in
theorem primary_any (w : World) (R M1 M2 M3 : Nat) (S : Value) (ts : List RT) (s : St) (h : Rs w R M1 M2 M3 S ts s) (rec : Nat → St → Out) (hrec : RecOk ts rec) (gg : Nat) (hg : gg ≤ 1000000000) (x : Ex × St) (hx : primary ts rec gg s = some x) :
    Calls Tryz.prog 196 #[.pointer (some ⟨R, 0, none⟩)] w (ExPost w.heap.size w R M1 M2 M3 S ts x) := by
  simp only [primary] at hx
  by_cases h1 : (peek ts s.c).kind = 1
  · rw [if_pos h1] at hx
    exact pr_voc w R M1 M2 M3 S ts s h h1 rec hrec gg hg x hx
  rw [if_neg h1] at hx
  by_cases h2 : (peek ts s.c).kind = 2
  · rw [if_pos h2] at hx
    injection hx with hx
    subst hx
    exact pr_num w R M1 M2 M3 S ts s h h2
  rw [if_neg h2] at hx
  by_cases h3 : (peek ts s.c).kind = 3
  · rw [if_pos h3] at hx
    exact pr_kw w R M1 M2 M3 S ts s h h3 rec hrec x hx
  rw [if_neg h3] at hx
  by_cases h4 : (peek ts s.c).kind = 4
  · rw [if_pos h4] at hx
    exact pr_par w R M1 M2 M3 S ts s h h4 rec hrec x hx
  rw [if_neg h4] at hx
  injection hx with hx
  subst hx
  exact pr_none w R M1 M2 M3 S ts s h ⟨h1, h2, h3, h4⟩
end Go.Proofs.YtnadaedibicaaaaGreatDoor
